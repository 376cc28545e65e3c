/-
  The law's awake, from premises, for stage 12 (asn).
-/
import Derived.Test.YtppdnejkbdnlcaaAnK
namespace Go.Proofs.Ytppdnejkbdnlcaa
open Go.RowKit
set_option linter.unusedVariables false

theorem rg_made (w : World) {L : List (Nat × Nat)} (hL : OkL L) (n : Nat) (hn : L.length = n) : RgRow (w.alloc (.cells (flatR L).toArray 33)) (some ⟨w.heap.size, 0, none⟩) n L := by
  refine ⟨hn, hL, fun _ => ⟨w.heap.size, 0, rfl, by simp, fun i hi => ?_⟩⟩
  rw [Nat.zero_add, Blk.cell (Blk.new w 33 (flatR L).toArray) i, List.getElem?_toArray]
theorem RgOut.one {W0 wr : World} {V : Value} {s : Nat × Nat} (h : RgOut W0 wr V [s]) : ∃ g cap, V = .slice (some ⟨g, 0, none⟩) 1 cap ∧ RgArg wr (some ⟨g, 0, none⟩) 1 cap [s] := by
  rcases h.form with ⟨_, e⟩ | ⟨g, cap, rfl, _, h2, _⟩
  · cases e
  · obtain ⟨a, c, e, hr⟩ := h.arg
    injection e with e1 e2 e3
    subst e1 e3
    exact ⟨g, cap, rfl, hr⟩
theorem rbuilt3 : Try.prog.builtSlice 33 3 [(0, .agg (rcells (4, 9))), (1, .agg (rcells (1, 3))), (2, .agg (rcells (20, 19)))] = some (flatR [(4, 9), (1, 3), (20, 19)]).toArray := by kernel_rfl
theorem join_three : joinZ [(4, 9), (1, 3), (20, 19)] = [(1, 9)] := by decide
theorem build_const_at {ops : Array Oper} {rest : List Oper} {a : Act} {w : World} {Q : Exit → Act → World → Prop} {dst : Option Tmp} {t' : TypeId} {pos : String} {aft : Array Edge} {g : Option (Nat × Bool)} (x y : Int) (hw : Region.wanted ({ dst := dst, op := .build 33 #[(0, .const (.int .u32 x)), (1, .const (.int .u32 y))], type := t', pos := pos, after := aft, guard := g } : Oper) (yielded ops a.tmps) = true)
    (h : wpList Try.prog ops Q rest (a.put dst (.agg #[.int .u32 x, .int .u32 y])) w) :
    wpList Try.prog ops Q ({ dst := dst, op := .build 33 #[(0, .const (.int .u32 x)), (1, .const (.int .u32 y))], type := t', pos := pos, after := aft, guard := g } :: rest) a w :=
  wpList_step fun K hK => by
    rw [if_pos hw]
    have e : (#[(0, Operand.const (.int .u32 x)), (1, Operand.const (.int .u32 y))].map fun (i, x) => (i, a.eval x)).toList = [(0, .int .u32 x), (1, .int .u32 y)] := by
      simp only [List.map_toArray, List.map_cons, List.map_nil]
      rfl
    refine wp_build 33 _ rfl ?_ ?_
    · rw [e, rbuilt]
      rfl
    · rw [e, rbuilt]
      exact hK _ _ h
theorem load_range_atG {ops : Array Oper} {rest : List Oper} {a : Act} {w : World} {Q : Exit → Act → World → Prop} {dst : Option Tmp} {t' : TypeId} {pos : String} {aft : Array Edge} {g : Option (Nat × Bool)} (k : Nat) (b o : Nat) (s : Nat × Nat)
    (hw : Region.wanted ({ dst := dst, op := .load 33 (.tmp k), type := t', pos := pos, after := aft, guard := g } : Oper) (yielded ops a.tmps) = true) (hx : a.eval (.tmp k) = .pointer (some ⟨b, o, none⟩)) (hc : w.rangeAt b o (rcL s))
    (h : wpList Try.prog ops Q rest (a.put dst (.agg (rcells s))) w) :
    wpList Try.prog ops Q ({ dst := dst, op := .load 33 (.tmp k), type := t', pos := pos, after := aft, guard := g } :: rest) a w :=
  wpList_step fun K hK => by
    rw [if_pos hw]
    exact wp_load_mid 33 (.tmp k) rfl b o hx (rcL s) _ hc Try.underlying33 rfl (by kernel_rfl) (hK _ _ h)
theorem slice3_range_at {ops : Array Oper} {rest : List Oper} {a : Act} {w : World} {Q : Exit → Act → World → Prop} {dst : Option Tmp} {t' : TypeId} {pos : String} {aft : Array Edge} (i j k : Nat) (hx : a.eval (.tmp i) = .agg (rcells (4, 9))) (hy : a.eval (.tmp j) = .agg (rcells (1, 3))) (hz : a.eval (.tmp k) = .agg (rcells (20, 19)))
    (h : wpList Try.prog ops Q rest (a.put dst (.slice (some ⟨w.heap.size, 0, none⟩) 3 3)) (w.alloc (.cells (flatR [(4, 9), (1, 3), (20, 19)]).toArray 33))) :
    wpList Try.prog ops Q ({ dst := dst, op := .buildSlice 22 3 #[(0, .tmp i), (1, .tmp j), (2, .tmp k)], type := t', pos := pos, after := aft, guard := none } :: rest) a w := by
  refine Great.wpList_buildSliceTo rfl 22 33 3 _ rfl w.heap.size rfl dst rfl Try.underlying22 (flatR [(4, 9), (1, 3), (20, 19)]).toArray ?_ h
  simp only [List.map_toArray, List.map_cons, List.map_nil, hx, hy, hz]
  exact rbuilt3

set_option maxHeartbeats 1000000 in
set_option maxRecDepth 10000 in
theorem awakeR_any (PJ : PkJoin) (PH : PkHas) (PM : PkMany) (w : World) : Calls Try.prog 7 #[] w fun e w' => e = .returned (.bool true) ∧ Below w.heap.size w w' := by
  have ok3 : OkL [(4, 9), (1, 3), (20, 19)] := fun s hs => by
    simp only [List.mem_cons, List.not_mem_nil, or_false] at hs
    rcases hs with rfl | rfl | rfl <;> exact ⟨by decide, by decide⟩
  have RM : Hid (RgArg (w.alloc (.cells (flatR [(4, 9), (1, 3), (20, 19)]).toArray 33)) (some ⟨w.heap.size, 0, none⟩) 3 3 [(4, 9), (1, 3), (20, 19)]) := Lib.hid ⟨rg_made w ok3 3 rfl, fun e => by cases e⟩
  have CJ := Lib.hid (fun W (h : RgArg W (some ⟨w.heap.size, 0, none⟩) 3 3 [(4, 9), (1, 3), (20, 19)]) => PJ _ 3 3 _ W h (by omega))
  rw [join_three] at CJ
  have CH : Hid (∀ g c W, RgArg W (some ⟨g, 0, none⟩) 1 c [(1, 9)] → Calls Try.prog 13 #[.slice (some ⟨g, 0, none⟩) 1 c, .int .u32 5] W fun e w' => e = .returned (.bool true) ∧ Below W.heap.size W w') := Lib.hid (fun g c W h => PH (some ⟨g, 0, none⟩) 1 c 5 [(1, 9)] W h (by omega) (by omega))
  have CM : Hid (∀ g c W, RgArg W (some ⟨g, 0, none⟩) 1 c [(1, 9)] → Calls Try.prog 15 #[.slice (some ⟨g, 0, none⟩) 1 c] W fun e w' => e = .returned (.int .u64 9) ∧ Below W.heap.size W w') := Lib.hid (fun g c W h => PM (some ⟨g, 0, none⟩) 1 c [(1, 9)] W h (by omega))
  have EQ : ∀ W, (Op.equalIn 10000 33 (.agg (rcells (1, 9))) (.agg #[.int .u32 1, .int .u32 9])).run Try.prog W = .ok true W := fun W => two_range (1, 9) (1, 9) W
  have B0 := Lib.hid (boxR_below w (.cells (flatR [(4, 9), (1, 3), (20, 19)]).toArray 33))
  clear PJ PH PM ok3
  go_enter Try.func7, Try.ntmps7
  go_upto_region 2 with (first
    | ((with_reducible refine build_const_at _ _ ?_ ?_); (· rfl))
    | ((with_reducible refine slice3_range_at 2 3 4 ?_ ?_ ?_ ?_); (· rfl); (· rfl); (· rfl))
    | (go_at_call 9
       refine (CJ.out _ RM.out).mono ?_
       rintro r w3 ⟨V1, rfl, ho3⟩
       have B3 := Lib.hid (Below.step B0.out ho3.2.1)
       obtain ⟨g1, c1, rfl, hr⟩ := ho3.one
       have R3 := Lib.hid hr
       clear ho3 hr B0 CJ RM))
  have RG : Hid (w3.rangeAt g1 0 (rcL (1, 9))) := Lib.hid (R3.out.1.range 0 (by simp))
  go_wp2_with (first
    | ((with_reducible refine load_range_atG 12 g1 0 (1, 9) ?_ ?_ RG.out ?_); (· rfl); (· rfl))
    | ((with_reducible refine build_const_at _ _ ?_ ?_); (· rfl))
    | (go_at_call 13
       refine (CH.out _ _ _ R3.out).mono ?_
       rintro r w4 ⟨rfl, hb⟩
       have R4 := Lib.hid (R3.out.below hb)
       have B4 := Lib.hid (Below.step B3.out hb)
       clear hb B3 RG R3 CH)
    | (go_at_call 15
       refine (CM.out _ _ _ R4.out).mono ?_
       rintro r w5 ⟨rfl, hb⟩
       have B5 := Lib.hid (Below.step B4.out hb)
       clear hb B4 R4 CM))
  go_ret
  exact ⟨rfl, B5.out⟩

end Go.Proofs.Ytppdnejkbdnlcaa
