/-
  Merged texts: AdF, AdG, AdH, Shelf, AeS, AfM.
-/
import Derived.Test.YtpekpgmdjpcpiaaDoorGrA
import Derived.Deep.QuietTactic
import Derived.BigQuiet
import Derived.Deep.LoopGhost
import Derived.Shelf.Strings.OnBuilder
import Derived.Shelf.Small.Wraps
import Derived.Shelf.Strconv.Itoa1
import Derived.Shelf.LaysM
import Derived.Shelf.Strconv.Itoa2
import Derived.Shelf.Strconv.Itoa3
import Derived.Shelf.LaysC
import Derived.Shelf.Strconv.ToError
import Derived.Shelf.Strconv.Lower
import Derived.Shelf.Strconv.ToErrorRange
import Derived.Shelf.Strconv.AtoiAll
import Derived.Shelf.Strings.Search3
import Derived.Shelf.Strings.Cut
import Derived.Shelf.Strings.Split
import Derived.Test.YtpekpgmdjpcpiaaDoorProg
import Derived.Lib.AppendIntMem
import Derived.Lib.ItoaMem
import Derived.WalkSmall
import Derived.Great.Walk
import Derived.Test.YtpekpgmdjpcpiaaDoorRows
import Derived.Shelf.Vars
import Derived.Lib.LaidTab
import Derived.Stop.LaidErr
import Derived.ProofKit
import Derived.OpenShut
import Derived.ShutString
import Derived.LaidMore
import Derived.Lay
import Derived.Stop.Joined
namespace Go.Proofs.YtpekpgmdjpcpiaaDoor
open Go.RowKit
set_option linter.unusedVariables false

/-- A digit's letter; a number's digits. -/
def chrZ (d : Nat) : Int := if d < 10 then 48 + d else 87 + d
def digZ (b n : Nat) : List Int := if h : n < b ∨ b < 2 then [chrZ n] else digZ b (n / b) ++ [chrZ (n % b)]
termination_by n
decreasing_by
  have h2 : ¬ n < b ∧ ¬ b < 2 := by omega
  exact Nat.div_lt_self (by omega) (by omega)
theorem dig_small {b n : Nat} (h : n < b) : digZ b n = [chrZ n] := by rw [digZ, dif_pos (.inl h)]
theorem dig_step {b n : Nat} (h2 : 2 ≤ b) (h : b ≤ n) : digZ b n = digZ b (n / b) ++ [chrZ (n % b)] := by rw [digZ, dif_neg (by omega)]
theorem dig_len {b : Nat} (h2 : 2 ≤ b) (n : Nat) : (digZ b n).length ≤ n + 1 := by
  induction n using Nat.strongRecOn with
  | ind n ih =>
    rcases Nat.lt_or_ge n b with h | h
    · rw [dig_small h]
      simp
    · have hd : n / b < n := Nat.div_lt_self (by omega) (by omega)
      have := ih _ hd
      rw [dig_step h2 h, List.length_append, List.length_singleton]
      omega
theorem dig_cut (r : Nat) (h : r < 16) (W : World) :
    (Instr.slice 9 (.string ⟨#[48, 49, 50, 51, 52, 53, 54, 55, 56, 57, 97, 98, 99, 100, 101, 102]⟩) (some (.int .i64 (r : Int))) (some (.int .i64 ((r : Int) + 1))) none).run Tryd.prog W = .ok (.string (strOfNums [chrZ r])) W := by
  rcases r with _ | _ | _ | _ | _ | _ | _ | _ | _ | _ | _ | _ | _ | _ | _ | _ | r
  all_goals first | (exfalso; omega) | (rw [run_slice_string W 9 _ .i64 .i64 _ _ Tryd.underlying9 (by decide) (by decide) (by decide)]; rfl)

set_option maxHeartbeats 500000 in
set_option maxRecDepth 10000 in
theorem rdigits_any (b : Nat) (hb0 : 2 ≤ b) (hb1 : b ≤ 16) (n : Nat) : n ≤ 1000000 → ∀ w : World, Calls Tryd.prog 24 #[.int .i64 (n : Int), .int .i64 (b : Int)] w fun e w' => e = .returned (.string (strOfNums (digZ b n))) ∧ ∃ q, w' = w.drewN q := by
  induction n using Nat.strongRecOn with
  | ind n ih =>
    intro hn w
    obtain ⟨r, hr⟩ : ∃ r, n % b = r := ⟨_, rfl⟩
    obtain ⟨d, hd⟩ : ∃ d, n / b = d := ⟨_, rfl⟩
    have rb : r < b := by rw [← hr]; exact Nat.mod_lt _ (by omega)
    have dn : d ≤ n := by rw [← hd]; exact Nat.div_le_self n b
    have k3 : (n : Int) / (b : Int) = (d : Int) := by rw [← hd]; exact (Int.natCast_ediv n b).symm
    have k3' : (n : Int).tdiv (b : Int) = (d : Int) := by rw [Int.tdiv_eq_ediv_of_nonneg (by omega)]; exact k3
    have k4 : (n : Int) % (b : Int) = (r : Int) := by rw [← hr]; exact (Int.natCast_emod n b).symm
    have k4' : (n : Int).tmod (b : Int) = (r : Int) := by rw [Int.tmod_eq_emod_of_nonneg (by omega)]; exact k4
    have k5 : IntKind.i64.wrap (d : Int) = (d : Int) := IntWalk.i64_in _ (by omega)
    have k6 : IntKind.i64.wrap (r : Int) = (r : Int) := IntWalk.i64_in _ (by omega)
    have k7 : IntKind.i64.wrap ((r : Int) + 1) = (r : Int) + 1 := IntWalk.i64_in _ (by omega)
    have b0 : (b : Int) ≠ 0 := by omega
    have hcut := dig_cut r (by omega)
    have z1 : (strOfNums [chrZ r]).size = 1 := by rw [strOfNums_size]; rfl
    by_cases h : n < b
    · have t0 : decide (n < b) = true := decide_eq_true h
      have F : Hid (digZ b n = [chrZ r]) := Lib.hid (by rw [dig_small h, ← hr, Nat.mod_eq_of_lt h])
      clear ih hr hd h
      go_enter Tryd.func24, Tryd.ntmps24
      go_wp2_with fail
      go_quiet (fail)
      go_wp2_with fail
      go_ret
      exact ⟨by rw [F.out]; rfl, _, rfl⟩
    · have t0 : decide (n < b) = false := decide_eq_false h
      have F : Hid (digZ b n = digZ b d ++ [chrZ r]) := Lib.hid (by rw [dig_step hb0 (by omega), hd, hr])
      have CI := Lib.hid (ih d (by rw [← hd]; exact Nat.div_lt_self (by omega) (by omega)) (by omega))
      have SL : (strOfNums (digZ b d)).size ≤ 1000001 := by rw [strOfNums_size]; have := dig_len hb0 d; omega
      have SA : Hid (strOfNums (digZ b d) ++ strOfNums [chrZ r] = strOfNums (digZ b n)) := Lib.hid (by rw [F.out, str_append])
      clear ih hr hd h F
      generalize strOfNums (digZ b d) = S at *
      go_enter Tryd.func24, Tryd.ntmps24
      go_wp2_with fail
      go_quiet (fail)
      go_wp2_with fail
      refine (CI.out _).mono ?_
      rintro e w2 ⟨rfl, q2, rfl⟩
      clear CI
      go_wp2_with fail
      go_ret
      exact ⟨by rw [← SA.out]; rfl, _, rfl⟩

/-- A group of an address. -/
def grpZ (A : List Int) (i : Nat) : Int := A[2 * i]?.getD 0 * 256 + A[2 * i + 1]?.getD 0
theorem sixteen_at {A : List Int} (h : Sixteen A) (q : Nat) : 0 ≤ A[q]?.getD 0 ∧ A[q]?.getD 0 ≤ 255 := by
  rcases Nat.lt_or_ge q A.length with hq | hq
  · rw [List.getElem?_eq_getElem hq]
    exact h.2 _ (List.getElem_mem _)
  · rw [List.getElem?_eq_none hq]
    simp
set_option maxHeartbeats 500000 in
set_option maxRecDepth 10000 in
theorem rgroup_any (A : List Int) (i : Nat) (w : World) (hA : Sixteen A) (hi : i < 8) :
    Calls Tryd.prog 43 #[.agg (acells A).toArray, .int .i64 (i : Int)] w fun e w' => e = .returned (.int .i64 (grpZ A i)) ∧ Below w.heap.size w w' := by
  have BX := Lib.hid (Blk.new w 22 (acells A).toArray)
  have BW := Lib.hid (box_below w (.cells (acells A).toArray 22))
  have c0 := (BX.out.cell (2 * i)).trans (List.getElem?_toArray.trans (acells_at hA.1 (2 * i) (by omega)))
  have c1 := (BX.out.cell (2 * i + 1)).trans (List.getElem?_toArray.trans (acells_at hA.1 (2 * i + 1) (by omega)))
  have x0 := sixteen_at hA (2 * i)
  have x1 := sixteen_at hA (2 * i + 1)
  have GZ : Hid (grpZ A i = A[2 * i]?.getD 0 * 256 + A[2 * i + 1]?.getD 0) := Lib.hid rfl
  obtain ⟨j, hj⟩ : ∃ j, 2 * i = j := ⟨_, rfl⟩
  rw [hj] at c0 c1 x0 x1 GZ
  have j14 : j < 15 := by omega
  have k1 : (2 : Int) * (i : Int) = (j : Int) := by omega
  have k2 : IntKind.i64.wrap (j : Int) = (j : Int) := IntWalk.i64_in _ (by omega)
  have k3 : IntKind.i64.wrap ((j : Int) + 1) = (j : Int) + 1 := IntWalk.i64_in _ (by omega)
  have j0 : (0 : Int) ≤ (j : Int) := by omega
  have j1 : (j : Int) < 16 := by omega
  have j2 : (j : Int) + 1 < 16 := by omega
  generalize A[j]?.getD 0 = x at *
  generalize A[j + 1]?.getD 0 = y at *
  have k4 : IntKind.i64.wrap (x * 256) = x * 256 := IntWalk.i64_in _ (by omega)
  have k5 : IntKind.i64.wrap (x * 256 + y) = x * 256 + y := IntWalk.i64_in _ (by omega)
  have k6 : IntKind.i64.wrap x = x := IntWalk.i64_in _ (by omega)
  have k7 : IntKind.i64.wrap y = y := IntWalk.i64_in _ (by omega)
  clear hA hj hi
  go_enter Tryd.func43, Tryd.ntmps43
  generalize acells A = ac at *
  generalize hw2 : w.alloc (.cells ac.toArray 22) = w2 at *
  go_wp2_with fail
  go_quiet (fail)
  have B3 := Lib.hid (Below.step BW.out (drewN_below w2 nq))
  go_wp2_with fail
  go_ret
  exact ⟨by rw [GZ.out]; rfl, B3.out⟩

end Go.Proofs.YtpekpgmdjpcpiaaDoor

namespace Go.Proofs.YtpekpgmdjpcpiaaDoor
open Go.RowKit
set_option linter.unusedVariables false

/-- How many groups from i on are 0, one behind the other: so many are. -/
def RunIs (A : List Int) (i n : Nat) : Prop := i + n ≤ 8 ∧ (∀ k, k < n → grpZ A (i + k) = 0) ∧ (i + n < 8 → grpZ A (i + n) ≠ 0)
theorem run_one {A : List Int} {i n m : Nat} (h : RunIs A i n) (k : RunIs A i m) : n = m := by
  rcases Nat.lt_trichotomy n m with h' | h' | h'
  · exact absurd (k.2.1 n h') (h.2.2 (by have := k.1; omega))
  · exact h'
  · exact absurd (h.2.1 m h') (k.2.2 (by have := h.1; omega))
/-- .. the function: j groups before the end. -/
def runU (A : List Int) : Nat → Nat
  | 0 => 0
  | j + 1 => if grpZ A (8 - (j + 1)) = 0 then runU A j + 1 else 0
def runZ (A : List Int) (i : Nat) : Nat := runU A (8 - i)
theorem run_is (A : List Int) : ∀ j, j ≤ 8 → RunIs A (8 - j) (runU A j)
  | 0, _ => ⟨by simp [runU], fun k hk => by simp [runU] at hk, fun h => by simp [runU] at h⟩
  | j + 1, hj => by
    have ih := run_is A j (by omega)
    rw [runU]
    split
    · rename_i h0
      refine ⟨by have := ih.1; omega, fun k hk => ?_, fun hlt => ?_⟩
      · cases k with
        | zero => exact h0
        | succ k =>
          have := ih.2.1 k (by omega)
          rwa [show 8 - (j + 1) + (k + 1) = 8 - j + k by omega]
      · have := ih.2.2 (by omega)
        rwa [show 8 - (j + 1) + (runU A j + 1) = 8 - j + runU A j by omega]
    · rename_i h0
      exact ⟨by omega, fun k hk => by omega, fun _ => h0⟩
theorem runZ_is (A : List Int) {i : Nat} (hi : i ≤ 8) : RunIs A i (runZ A i) := by
  have := run_is A (8 - i) (by omega)
  rwa [show 8 - (8 - i) = i by omega] at this
/-- The best of those that begin ahead of k; which of them is left out. -/
def bestZ (A : List Int) : Nat → Nat × Nat
  | 0 => (0, 0)
  | k + 1 => if (bestZ A k).2 < runZ A k then (k, runZ A k) else bestZ A k
def rowZ (A : List Int) : Nat × Nat := if (bestZ A 8).2 < 2 then (0, 0) else bestZ A 8
theorem best_le (A : List Int) : ∀ k, k ≤ 8 → (bestZ A k).1 + (bestZ A k).2 ≤ 8
  | 0, _ => by simp [bestZ]
  | k + 1, hk => by
    rw [bestZ]
    split
    · exact (runZ_is A (by omega)).1
    · exact best_le A k (by omega)

set_option maxHeartbeats 2000000 in
set_option maxRecDepth 10000 in
theorem rrow_any (A : List Int) (w : World) (hA : Sixteen A) :
    Calls Tryd.prog 42 #[.agg (acells A).toArray] w fun e w' => e = .returned (.tuple #[.int .i64 ((rowZ A).1 : Int), .int .i64 ((rowZ A).2 : Int)]) ∧ Below w.heap.size w w' := by
  have BX := Lib.hid (Blk.new w 22 (acells A).toArray)
  have BW := Lib.hid (box_below w (.cells (acells A).toArray 22))
  have HA := Lib.hid hA
  have SA : Hid ((Tryd.prog.info? 22).map (·.size) = some (acells A).toArray.size) := Lib.hid (by rw [Tryd.sizeA hA.1]; simp)
  have RW : Hid (rowZ A = if (bestZ A 8).2 < 2 then (0, 0) else bestZ A 8) := Lib.hid rfl
  clear hA
  go_enter Tryd.func42, Tryd.ntmps42
  generalize hw2 : w.alloc (.cells (acells A).toArray 22) = w2 at *
  go_wp2_with fail
  clear hw2
  go_loopg [4, 5, 6] 8 (fun gk fV bV iV wr => ∃ i : Nat, gk + i = 8 ∧ iV = .int .i64 (i : Int) ∧ fV = .int .i64 ((bestZ A i).1 : Int) ∧ bV = .int .i64 ((bestZ A i).2 : Int) ∧ Below w2.heap.size w2 wr)
  case atStart => exact ⟨0, rfl, rfl, rfl, rfl, Below.refl _ _⟩
  case round =>
    obtain ⟨i, hgi, rfl, rfl, rfl, hb⟩ := hrel
    have BE := Lib.hid hb
    have BL := Lib.hid (best_le A i (by omega))
    have BS : Hid (bestZ A (i + 1) = if (bestZ A i).2 < runZ A i then (i, runZ A i) else bestZ A i) := Lib.hid rfl
    have BEND : Hid (i = 8 → bestZ A 8 = bestZ A i) := Lib.hid (fun h => by rw [h])
    clear hb
    generalize hbz : bestZ A i = bz at *
    clear hbz
    obtain ⟨bf, bb⟩ := bz
    simp only at BL BS
    have bl1 : bf + bb ≤ 8 := BL.out
    clear BL
    by_cases hlt : i < 8
    · have t0 : decide (i < 8) = true := decide_eq_true hlt
      have t0' : decide ((i : Int) < 8) = true := decide_eq_true (by omega)
      obtain ⟨g, rfl⟩ : ∃ g, gk = g + 1 := ⟨gk - 1, by omega⟩
      go_wp2_with fail
      go_loopg [7] (8 - i) (fun hk nV wr' => ∃ n : Nat, hk + i + n = 8 ∧ nV = .int .i64 (n : Int) ∧ (∀ k, k < n → grpZ A (i + k) = 0) ∧ Below w2.heap.size w2 wr')
      case atStart => exact ⟨0, by omega, rfl, fun k hk => by omega, BE.out⟩
      case round =>
        obtain ⟨n, hgn, rfl, hz, hb⟩ := hrel
        have HZ := Lib.hid hz
        have BF := Lib.hid hb
        have X := Lib.hid (BX.out.below hb BX.out.lt)
        clear hz hb
        by_cases hs : i + n < 8
        · have t1 : decide (i + n < 8) = true := decide_eq_true hs
          have t1' : decide ((i : Int) + (n : Int) < 8) = true := decide_eq_true (by omega)
          have k1 : IntKind.i64.wrap ((i : Int) + (n : Int)) = (i : Int) + (n : Int) := IntWalk.i64_in _ (by omega)
          have CG := Lib.hid (rgroup_any A (i + n) wr HA.out hs)
          rw [Int.natCast_add] at CG
          obtain ⟨gv, hgv⟩ : ∃ gv, grpZ A (i + n) = gv := ⟨_, rfl⟩
          have GV := Lib.hid hgv
          rw [hgv] at CG
          clear hgv
          go_wp2_with (refine wpList_load_rowG (by rfl) 22 (.tmp 1) rfl w.heap.size rfl 22 (acells A).toArray (0, 0) (.array 16 5) X.out Tryd.underlying22 rfl SA.out ?_)
          refine CG.out.mono ?_
          rintro r w6 ⟨rfl, hb6⟩
          have WB := Lib.hid (BF.out.trans (hb6.mono BF.out.size))
          clear hb6 CG BF
          by_cases hg0 : gv = 0
          · have HN : Hid (∀ k, k < n + 1 → grpZ A (i + k) = 0) := Lib.hid (fun k h => by
              rcases Nat.lt_or_ge k n with h' | h'
              · exact HZ.out k h'
              · rw [show k = n by omega, GV.out]; exact hg0)
            have t2 : (gv == 0) = true := by simpa using hg0
            clear HZ GV hg0
            go_wp2_with fail
            go_roundg (gk - 1)
            case measure => omega
            case rel => exact ⟨n + 1, by omega, by go_num, HN.out, WB.out⟩
          have t2 : (gv == 0) = false := by simpa using hg0
          have RUN : RunIs A i n := ⟨by omega, HZ.out, fun _ => by rw [GV.out]; exact hg0⟩
          clear GV hg0
          have RN : Hid (runZ A i = n) := Lib.hid (run_one (runZ_is A (by omega)) RUN)
          have BT : Hid (bestZ A (i + 1) = if bb < n then (i, n) else (bf, bb)) := Lib.hid (by rw [BS.out, RN.out])
          clear BS RN HZ BX X
          by_cases h6 : bb < n
          · have t6 : decide (bb < n) = true := decide_eq_true h6
            have t6' : decide ((bb : Int) < (n : Int)) = true := decide_eq_true (by omega)
            have BU : Hid (bestZ A (i + 1) = (i, n)) := Lib.hid (by rw [BT.out, if_pos h6])
            clear BT
            go_wp2_with fail
            go_roundg g
            case measure => omega
            case rel => exact ⟨i + 1, by omega, by go_num, by rw [BU.out], by rw [BU.out], WB.out⟩
          · have t6 : decide (bb < n) = false := decide_eq_false h6
            have t6' : decide ((bb : Int) < (n : Int)) = false := decide_eq_false (by omega)
            have BU : Hid (bestZ A (i + 1) = (bf, bb)) := Lib.hid (by rw [BT.out, if_neg h6])
            clear BT
            go_wp2_with fail
            go_roundg g
            case measure => omega
            case rel => exact ⟨i + 1, by omega, by go_num, by rw [BU.out], by rw [BU.out], WB.out⟩
        · have t1 : decide (i + n < 8) = false := decide_eq_false hs
          have t1' : decide ((i : Int) + (n : Int) < 8) = false := decide_eq_false (by omega)
          have k1 : IntKind.i64.wrap ((i : Int) + (n : Int)) = (i : Int) + (n : Int) := IntWalk.i64_in _ (by omega)
          have RUN : RunIs A i n := ⟨by omega, HZ.out, fun h => absurd h hs⟩
          have WB := BF
          have RN : Hid (runZ A i = n) := Lib.hid (run_one (runZ_is A (by omega)) RUN)
          have BT : Hid (bestZ A (i + 1) = if bb < n then (i, n) else (bf, bb)) := Lib.hid (by rw [BS.out, RN.out])
          clear BS RN HZ BX X
          by_cases h6 : bb < n
          · have t6 : decide (bb < n) = true := decide_eq_true h6
            have t6' : decide ((bb : Int) < (n : Int)) = true := decide_eq_true (by omega)
            have BU : Hid (bestZ A (i + 1) = (i, n)) := Lib.hid (by rw [BT.out, if_pos h6])
            clear BT
            go_wp2_with fail
            go_roundg g
            case measure => omega
            case rel => exact ⟨i + 1, by omega, by go_num, by rw [BU.out], by rw [BU.out], WB.out⟩
          · have t6 : decide (bb < n) = false := decide_eq_false h6
            have t6' : decide ((bb : Int) < (n : Int)) = false := decide_eq_false (by omega)
            have BU : Hid (bestZ A (i + 1) = (bf, bb)) := Lib.hid (by rw [BT.out, if_neg h6])
            clear BT
            go_wp2_with fail
            go_roundg g
            case measure => omega
            case rel => exact ⟨i + 1, by omega, by go_num, by rw [BU.out], by rw [BU.out], WB.out⟩
    · have t0 : decide (i < 8) = false := decide_eq_false hlt
      have t0' : decide ((i : Int) < 8) = false := decide_eq_false (by omega)
      have RE : Hid (rowZ A = if bb < 2 then (0, 0) else (bf, bb)) := Lib.hid (by rw [RW.out, BEND.out (by omega)])
      clear RW BS BEND
      by_cases h2 : bb < 2
      · have t1 : decide ((bb : Int) < 2) = true := decide_eq_true (by omega)
        have F : Hid (rowZ A = (0, 0)) := Lib.hid (by rw [RE.out, if_pos h2])
        clear RE
        go_wp2_with fail
        go_ret2
        exact ⟨by rw [F.out]; rfl, Below.step BW.out BE.out⟩
      · have t1 : decide ((bb : Int) < 2) = false := decide_eq_false (by omega)
        have F : Hid (rowZ A = (bf, bb)) := Lib.hid (by rw [RE.out, if_neg h2])
        clear RE
        go_wp2_with fail
        go_ret2
        exact ⟨by rw [F.out]; rfl, Below.step BW.out BE.out⟩

end Go.Proofs.YtpekpgmdjpcpiaaDoor

namespace Go.Proofs.YtpekpgmdjpcpiaaDoor
open Go.RowKit
set_option linter.unusedVariables false

def Bytes (s : List Int) : Prop := ∀ x ∈ s, 0 ≤ x ∧ x ≤ 255
theorem Bytes.app {s t : List Int} (h : Bytes s) (k : Bytes t) : Bytes (s ++ t) := by
  intro x hx
  rcases List.mem_append.1 hx with hx | hx
  · exact h x hx
  · exact k x hx
theorem chr_byte {d : Nat} (h : d < 16) : 0 ≤ chrZ d ∧ chrZ d ≤ 255 := by
  unfold chrZ
  split <;> omega
theorem dig_byte {b : Nat} (h2 : 2 ≤ b) (hb : b ≤ 16) (n : Nat) : Bytes (digZ b n) := by
  induction n using Nat.strongRecOn with
  | ind n ih =>
    rcases Nat.lt_or_ge n b with h | h
    · rw [dig_small h]
      intro x hx
      rw [List.mem_singleton] at hx
      rw [hx]
      exact chr_byte (by omega)
    · rw [dig_step h2 h]
      refine (ih _ (Nat.div_lt_self (by omega) (by omega))).app ?_
      intro x hx
      rw [List.mem_singleton] at hx
      rw [hx]
      exact chr_byte (by have := Nat.mod_lt n (show 0 < b by omega); omega)
/-- A group's digits; a group more; m groups more. -/
def hexG (A : List Int) (i : Nat) : List Int := digZ 16 (grpZ A i).toNat
def sepG (s : List Int) : List Int := if 0 < s.length ∧ s[s.length - 1]?.getD 0 ≠ 58 then s ++ [58] else s
def addG (s A : List Int) (i : Nat) : List Int := sepG s ++ hexG A i
def runG (s A : List Int) (i : Nat) : Nat → List Int
  | 0 => s
  | m + 1 => addG (runG s A i m) A (i + m)
def sixZ (A : List Int) : List Int := if (rowZ A).2 = 0 then runG [] A 0 8 else runG (runG [] A 0 (rowZ A).1 ++ [58, 58]) A ((rowZ A).1 + (rowZ A).2) (8 - (rowZ A).1 - (rowZ A).2)
theorem grp_range {A : List Int} (h : Sixteen A) (i : Nat) : 0 ≤ grpZ A i ∧ grpZ A i ≤ 65535 := by
  have h0 := sixteen_at h (2 * i)
  have h1 := sixteen_at h (2 * i + 1)
  unfold grpZ
  omega
theorem hexG_ok {A : List Int} (h : Sixteen A) (i : Nat) : Bytes (hexG A i) ∧ (hexG A i).length ≤ 65536 := by
  have := grp_range h i
  have l := dig_len (b := 16) (by omega) (grpZ A i).toNat
  exact ⟨dig_byte (by omega) (by omega) _, by unfold hexG; omega⟩
theorem sepG_ok {s : List Int} (h : Bytes s) : Bytes (sepG s) ∧ (sepG s).length ≤ s.length + 1 := by
  unfold sepG
  split
  · exact ⟨h.app (fun x hx => by simp at hx; omega), by simp⟩
  · exact ⟨h, by omega⟩
theorem row_le (A : List Int) : (rowZ A).1 + (rowZ A).2 ≤ 8 ∧ ((rowZ A).2 = 0 → (rowZ A).1 = 0) := by
  unfold rowZ
  split
  · simp
  · exact ⟨best_le A 8 (by omega), by omega⟩
/-- Where six' loop stands. -/
def SixAt (A : List Int) (f n i : Nat) (s : List Int) : Prop := Bytes s ∧ s.length ≤ 70000 * (i + 1) ∧ i ≤ 8 ∧
  (((n = 0 ∨ i ≤ f) ∧ s = runG [] A 0 i) ∨ (0 < n ∧ f + n ≤ i ∧ s = runG (runG [] A 0 f ++ [58, 58]) A (f + n) (i - f - n)))
theorem six_add {A : List Int} {f n i : Nat} {s : List Int} (hA : Sixteen A) (h : SixAt A f n i s) (hi : i < 8) (hf : ¬ (0 < n ∧ i = f)) : SixAt A f n (i + 1) (addG s A i) := by
  obtain ⟨h1, h2, h3, h4⟩ := h
  have hs := sepG_ok h1
  have hh := hexG_ok hA i
  refine ⟨hs.1.app hh.1, ?_, by omega, ?_⟩
  · unfold addG
    rw [List.length_append]
    omega
  · rcases h4 with ⟨h5, rfl⟩ | ⟨h5, h6, rfl⟩
    · refine .inl ⟨by omega, ?_⟩
      rw [runG, Nat.zero_add]
    · refine .inr ⟨h5, by omega, ?_⟩
      rw [show i + 1 - f - n = (i - f - n) + 1 by omega, runG, show f + n + (i - f - n) = i by omega]
theorem six_skip {A : List Int} {f n i : Nat} {s : List Int} (h : SixAt A f n i s) (hn : 0 < n) (hi : i = f) (hfn : f + n ≤ 8) : SixAt A f n (i + n) (s ++ [58, 58]) := by
  obtain ⟨h1, h2, h3, h4⟩ := h
  refine ⟨h1.app (fun x hx => by simp at hx; omega), ?_, by omega, ?_⟩
  · rw [List.length_append]
    simp only [List.length_cons, List.length_nil]
    omega
  · rcases h4 with ⟨h5, rfl⟩ | ⟨h5, h6, rfl⟩
    · refine .inr ⟨hn, by omega, ?_⟩
      rw [show i + n - f - n = 0 by omega, runG, hi]
    · omega
theorem six_last {A : List Int} {f n k : Nat} {s : List Int} (hr : f + n ≤ k) (h : SixAt A f n k s) : s = if n = 0 then runG [] A 0 k else runG (runG [] A 0 f ++ [58, 58]) A (f + n) (k - f - n) := by
  obtain ⟨h1, h2, h3, h4⟩ := h
  rcases h4 with ⟨h5, h6⟩ | ⟨h5, h6, h7⟩
  · exact h6.trans (if_pos (by omega)).symm
  · exact h7.trans (if_neg (by omega)).symm
theorem six_end {A : List Int} {s : List Int} (h : SixAt A (rowZ A).1 (rowZ A).2 8 s) : s = sixZ A := six_last (row_le A).1 h

set_option maxHeartbeats 2000000 in
set_option maxRecDepth 10000 in
theorem rsix_any (A : List Int) (w : World) (hA : Sixteen A) :
    Calls Tryd.prog 25 #[.agg (acells A).toArray] w fun e w' => e = .returned (.string (strOfNums (sixZ A))) ∧ Below w.heap.size w w' := by
  have BX := Lib.hid (Blk.new w 22 (acells A).toArray)
  have BW := Lib.hid (box_below w (.cells (acells A).toArray 22))
  have HA := Lib.hid hA
  have SA : Hid ((Tryd.prog.info? 22).map (·.size) = some (acells A).toArray.size) := Lib.hid (by rw [Tryd.sizeA hA.1]; simp)
  have CR := Lib.hid (fun W => rrow_any A W hA)
  have SE := Lib.hid (fun s h => six_end (A := A) (s := s) h)
  have RL := row_le A
  have S0 : Hid (SixAt A (rowZ A).1 (rowZ A).2 0 []) := Lib.hid ⟨fun x hx => (by simp at hx), by simp, by omega, .inl ⟨by omega, rfl⟩⟩
  clear hA
  obtain ⟨f, hf⟩ : ∃ f, (rowZ A).1 = f := ⟨_, rfl⟩
  obtain ⟨n, hn⟩ : ∃ n, (rowZ A).2 = n := ⟨_, rfl⟩
  rw [hf, hn] at CR SE RL S0
  have r1 := RL.1
  clear hf hn RL
  go_enter Tryd.func25, Tryd.ntmps25
  generalize hw2 : w.alloc (.cells (acells A).toArray 22) = w2 at *
  go_wp2_with (refine wpList_load_row rfl 22 (.tmp 1) rfl w.heap.size rfl 22 (acells A).toArray (0, 0) (.array 16 5) BX.out Tryd.underlying22 rfl SA.out ?_)
  refine (CR.out w2).mono ?_
  rintro r w3 ⟨rfl, hb3⟩
  have B3 := Lib.hid (Below.step BW.out hb3)
  have X3 := Lib.hid (BX.out.below hb3 BX.out.lt)
  clear hb3 CR BW BX hw2
  go_wp2_with fail
  go_loopg [5, 6] 8 (fun gk sV iV wr => ∃ (i : Nat) (s : List Int), gk + i = 8 ∧ iV = .int .i64 (i : Int) ∧ sV = .string (strOfNums s) ∧ SixAt A f n i s ∧ Below w3.heap.size w3 wr)
  case atStart => exact ⟨0, [], rfl, rfl, rfl, S0.out, Below.refl _ _⟩
  case round =>
    obtain ⟨i, s, hgi, rfl, rfl, hs, hb⟩ := hrel
    have HS := Lib.hid hs
    have BE := Lib.hid hb
    have X4 := Lib.hid (X3.out.below hb X3.out.lt)
    have sl := hs.2.1
    have sb := Lib.hid hs.1
    clear hs hb
    by_cases hlt : i < 8
    · have t0 : decide (i < 8) = true := decide_eq_true hlt
      have t0' : decide ((i : Int) < 8) = true := decide_eq_true (by omega)
      by_cases hn0 : 0 < n
      · have t1 : decide ((0 : Int) < (n : Int)) = true := decide_eq_true (by omega)
        have t1' : decide (0 < n) = true := decide_eq_true hn0
        by_cases hif : i = f
        · have t2 : ((i : Int) == (f : Int)) = true := by simp; omega
          have SK := Lib.hid (six_skip HS.out hn0 hif r1)
          have SZ : (strOfNums s).size ≤ 1000000 := by rw [strOfNums_size]; omega
          have SS : Hid (strOfNums s ++ ⟨#[58, 58]⟩ = strOfNums (s ++ [58, 58])) := Lib.hid (by rw [str_append]; rfl)
          have fn := hif
          clear hif HS
          subst fn
          generalize strOfNums s = S at *
          go_wp2_with fail
          go_roundg (gk - n)
          case measure => omega
          case rel => exact ⟨i + n, s ++ [58, 58], by omega, by go_num, by rw [← SS.out], SK.out, BE.out⟩
        · have t2 : ((i : Int) == (f : Int)) = false := by simp; omega
          have SK := Lib.hid (six_add HA.out HS.out hlt (fun h => hif h.2))
          clear hif HS
          have CG := Lib.hid (rgroup_any A i wr HA.out hlt)
          have gr := grp_range HA.out i
          have hx := hexG_ok HA.out i
          have CD : Hid (∀ W : World, Calls Tryd.prog 24 #[.int .i64 (grpZ A i), .int .i64 16] W fun e w' => e = .returned (.string (strOfNums (hexG A i))) ∧ ∃ q, w' = W.drewN q) := Lib.hid (fun W => by
            have h := rdigits_any 16 (by omega) (by omega) (grpZ A i).toNat (by omega) W
            rw [show (((grpZ A i).toNat : Nat) : Int) = grpZ A i by omega, show ((16 : Nat) : Int) = 16 from rfl] at h
            exact h)
          have HZ : (strOfNums (hexG A i)).size ≤ 65536 := by rw [strOfNums_size]; exact hx.2
          have sz : (strOfNums s).size = s.length := strOfNums_size s
          generalize grpZ A i = gv at *
          clear hx
          by_cases hl : 0 < s.length
          · have t3 : decide (0 < s.length) = true := decide_eq_true hl
            have t3' : decide ((0 : Int) < (s.length : Int)) = true := decide_eq_true (by omega)
            have wl : IntKind.i64.wrap ((s.length : Int) - 1) = (s.length : Int) - 1 := IntWalk.i64_in _ (by omega)
            have ix := str_at (strOfNums s) (s.length - 1) (by omega) ((s.length : Int) - 1) (by omega)
            unfold nth at ix
            rw [nums_str s sb.out] at ix
            obtain ⟨lc, hlc⟩ : ∃ lc, s[s.length - 1]?.getD 0 = lc := ⟨_, rfl⟩
            rw [hlc] at ix
            by_cases h58 : lc = 58
            · have t4 : (lc != 58) = false := by simpa using h58
              have SP : Hid (sepG s = s) := Lib.hid (by unfold sepG; rw [if_neg (fun h => h.2 (hlc.trans h58))])
              clear hlc h58 sb
              have SG : Hid (strOfNums s ++ strOfNums (hexG A i) = strOfNums (addG s A i)) := Lib.hid (by rw [← str_append]; unfold addG; rw [SP.out])
              generalize strOfNums s = S at *
              generalize strOfNums (hexG A i) = HXS at *
              clear SP
              go_wp2_with (refine wpList_load_row rfl 22 (.tmp 1) rfl w.heap.size rfl 22 (acells A).toArray (0, 0) (.array 16 5) X4.out Tryd.underlying22 rfl SA.out ?_)
              refine CG.out.mono ?_
              rintro r w6 ⟨rfl, hb6⟩
              have B6 := Lib.hid (BE.out.trans (hb6.mono BE.out.size))
              clear hb6 CG BE X4
              go_wp2_with fail
              refine (CD.out w6).mono ?_
              rintro r w7 ⟨rfl, q7, rfl⟩
              have B7 := Lib.hid (B6.out.trans ((drewN_below w6 q7).mono B6.out.size))
              clear CD B6
              generalize w6.drewN q7 = w8 at *
              go_wp2_with fail
              go_roundg (gk - 1)
              case measure => omega
              case rel => exact ⟨i + 1, addG s A i, by omega, by go_num, by rw [← SG.out], SK.out, B7.out⟩
            have t4 : (lc != 58) = true := by simpa using h58
            have SP : Hid (sepG s = s ++ [58]) := Lib.hid (by unfold sepG; rw [if_pos ⟨hl, fun h => h58 (hlc.symm.trans h)⟩])
            have SC : Hid (strOfNums s ++ ⟨#[58]⟩ = strOfNums (s ++ [58])) := Lib.hid (by rw [str_append]; rfl)
            clear hlc h58 sb
            have SG : Hid (strOfNums (s ++ [58]) ++ strOfNums (hexG A i) = strOfNums (addG s A i)) := Lib.hid (by rw [← str_append]; unfold addG; rw [SP.out])
            rw [← SC.out] at SG
            generalize strOfNums s = S at *
            generalize strOfNums (hexG A i) = HXS at *
            clear SP
            go_wp2_with (refine wpList_load_row rfl 22 (.tmp 1) rfl w.heap.size rfl 22 (acells A).toArray (0, 0) (.array 16 5) X4.out Tryd.underlying22 rfl SA.out ?_)
            refine CG.out.mono ?_
            rintro r w6 ⟨rfl, hb6⟩
            have B6 := Lib.hid (BE.out.trans (hb6.mono BE.out.size))
            clear hb6 CG BE X4
            go_wp2_with fail
            refine (CD.out w6).mono ?_
            rintro r w7 ⟨rfl, q7, rfl⟩
            have B7 := Lib.hid (B6.out.trans ((drewN_below w6 q7).mono B6.out.size))
            clear CD B6
            generalize w6.drewN q7 = w8 at *
            go_wp2_with fail
            go_roundg (gk - 1)
            case measure => omega
            case rel => exact ⟨i + 1, addG s A i, by omega, by go_num, by rw [← SG.out], SK.out, B7.out⟩
          · have t3 : decide (0 < s.length) = false := decide_eq_false hl
            have t3' : decide ((0 : Int) < (s.length : Int)) = false := decide_eq_false (by omega)
            have SP : Hid (sepG s = s) := Lib.hid (by unfold sepG; rw [if_neg (fun h => hl h.1)])
            clear sb
            have SG : Hid (strOfNums s ++ strOfNums (hexG A i) = strOfNums (addG s A i)) := Lib.hid (by rw [← str_append]; unfold addG; rw [SP.out])
            generalize strOfNums s = S at *
            generalize strOfNums (hexG A i) = HXS at *
            clear SP
            go_wp2_with (refine wpList_load_row rfl 22 (.tmp 1) rfl w.heap.size rfl 22 (acells A).toArray (0, 0) (.array 16 5) X4.out Tryd.underlying22 rfl SA.out ?_)
            refine CG.out.mono ?_
            rintro r w6 ⟨rfl, hb6⟩
            have B6 := Lib.hid (BE.out.trans (hb6.mono BE.out.size))
            clear hb6 CG BE X4
            go_wp2_with fail
            refine (CD.out w6).mono ?_
            rintro r w7 ⟨rfl, q7, rfl⟩
            have B7 := Lib.hid (B6.out.trans ((drewN_below w6 q7).mono B6.out.size))
            clear CD B6
            generalize w6.drewN q7 = w8 at *
            go_wp2_with fail
            go_roundg (gk - 1)
            case measure => omega
            case rel => exact ⟨i + 1, addG s A i, by omega, by go_num, by rw [← SG.out], SK.out, B7.out⟩
      · have t1 : decide ((0 : Int) < (n : Int)) = false := decide_eq_false (by omega)
        have t1' : decide (0 < n) = false := decide_eq_false hn0
        have SK := Lib.hid (six_add HA.out HS.out hlt (fun h => hn0 h.1))
        clear HS
        have CG := Lib.hid (rgroup_any A i wr HA.out hlt)
        have gr := grp_range HA.out i
        have hx := hexG_ok HA.out i
        have CD : Hid (∀ W : World, Calls Tryd.prog 24 #[.int .i64 (grpZ A i), .int .i64 16] W fun e w' => e = .returned (.string (strOfNums (hexG A i))) ∧ ∃ q, w' = W.drewN q) := Lib.hid (fun W => by
          have h := rdigits_any 16 (by omega) (by omega) (grpZ A i).toNat (by omega) W
          rw [show (((grpZ A i).toNat : Nat) : Int) = grpZ A i by omega, show ((16 : Nat) : Int) = 16 from rfl] at h
          exact h)
        have HZ : (strOfNums (hexG A i)).size ≤ 65536 := by rw [strOfNums_size]; exact hx.2
        have sz : (strOfNums s).size = s.length := strOfNums_size s
        generalize grpZ A i = gv at *
        clear hx
        by_cases hl : 0 < s.length
        · have t3 : decide (0 < s.length) = true := decide_eq_true hl
          have t3' : decide ((0 : Int) < (s.length : Int)) = true := decide_eq_true (by omega)
          have wl : IntKind.i64.wrap ((s.length : Int) - 1) = (s.length : Int) - 1 := IntWalk.i64_in _ (by omega)
          have ix := str_at (strOfNums s) (s.length - 1) (by omega) ((s.length : Int) - 1) (by omega)
          unfold nth at ix
          rw [nums_str s sb.out] at ix
          obtain ⟨lc, hlc⟩ : ∃ lc, s[s.length - 1]?.getD 0 = lc := ⟨_, rfl⟩
          rw [hlc] at ix
          by_cases h58 : lc = 58
          · have t4 : (lc != 58) = false := by simpa using h58
            have SP : Hid (sepG s = s) := Lib.hid (by unfold sepG; rw [if_neg (fun h => h.2 (hlc.trans h58))])
            clear hlc h58 sb
            have SG : Hid (strOfNums s ++ strOfNums (hexG A i) = strOfNums (addG s A i)) := Lib.hid (by rw [← str_append]; unfold addG; rw [SP.out])
            generalize strOfNums s = S at *
            generalize strOfNums (hexG A i) = HXS at *
            clear SP
            go_wp2_with (refine wpList_load_row rfl 22 (.tmp 1) rfl w.heap.size rfl 22 (acells A).toArray (0, 0) (.array 16 5) X4.out Tryd.underlying22 rfl SA.out ?_)
            refine CG.out.mono ?_
            rintro r w6 ⟨rfl, hb6⟩
            have B6 := Lib.hid (BE.out.trans (hb6.mono BE.out.size))
            clear hb6 CG BE X4
            go_wp2_with fail
            refine (CD.out w6).mono ?_
            rintro r w7 ⟨rfl, q7, rfl⟩
            have B7 := Lib.hid (B6.out.trans ((drewN_below w6 q7).mono B6.out.size))
            clear CD B6
            generalize w6.drewN q7 = w8 at *
            go_wp2_with fail
            go_roundg (gk - 1)
            case measure => omega
            case rel => exact ⟨i + 1, addG s A i, by omega, by go_num, by rw [← SG.out], SK.out, B7.out⟩
          have t4 : (lc != 58) = true := by simpa using h58
          have SP : Hid (sepG s = s ++ [58]) := Lib.hid (by unfold sepG; rw [if_pos ⟨hl, fun h => h58 (hlc.symm.trans h)⟩])
          have SC : Hid (strOfNums s ++ ⟨#[58]⟩ = strOfNums (s ++ [58])) := Lib.hid (by rw [str_append]; rfl)
          clear hlc h58 sb
          have SG : Hid (strOfNums (s ++ [58]) ++ strOfNums (hexG A i) = strOfNums (addG s A i)) := Lib.hid (by rw [← str_append]; unfold addG; rw [SP.out])
          rw [← SC.out] at SG
          generalize strOfNums s = S at *
          generalize strOfNums (hexG A i) = HXS at *
          clear SP
          go_wp2_with (refine wpList_load_row rfl 22 (.tmp 1) rfl w.heap.size rfl 22 (acells A).toArray (0, 0) (.array 16 5) X4.out Tryd.underlying22 rfl SA.out ?_)
          refine CG.out.mono ?_
          rintro r w6 ⟨rfl, hb6⟩
          have B6 := Lib.hid (BE.out.trans (hb6.mono BE.out.size))
          clear hb6 CG BE X4
          go_wp2_with fail
          refine (CD.out w6).mono ?_
          rintro r w7 ⟨rfl, q7, rfl⟩
          have B7 := Lib.hid (B6.out.trans ((drewN_below w6 q7).mono B6.out.size))
          clear CD B6
          generalize w6.drewN q7 = w8 at *
          go_wp2_with fail
          go_roundg (gk - 1)
          case measure => omega
          case rel => exact ⟨i + 1, addG s A i, by omega, by go_num, by rw [← SG.out], SK.out, B7.out⟩
        · have t3 : decide (0 < s.length) = false := decide_eq_false hl
          have t3' : decide ((0 : Int) < (s.length : Int)) = false := decide_eq_false (by omega)
          have SP : Hid (sepG s = s) := Lib.hid (by unfold sepG; rw [if_neg (fun h => hl h.1)])
          clear sb
          have SG : Hid (strOfNums s ++ strOfNums (hexG A i) = strOfNums (addG s A i)) := Lib.hid (by rw [← str_append]; unfold addG; rw [SP.out])
          generalize strOfNums s = S at *
          generalize strOfNums (hexG A i) = HXS at *
          clear SP
          go_wp2_with (refine wpList_load_row rfl 22 (.tmp 1) rfl w.heap.size rfl 22 (acells A).toArray (0, 0) (.array 16 5) X4.out Tryd.underlying22 rfl SA.out ?_)
          refine CG.out.mono ?_
          rintro r w6 ⟨rfl, hb6⟩
          have B6 := Lib.hid (BE.out.trans (hb6.mono BE.out.size))
          clear hb6 CG BE X4
          go_wp2_with fail
          refine (CD.out w6).mono ?_
          rintro r w7 ⟨rfl, q7, rfl⟩
          have B7 := Lib.hid (B6.out.trans ((drewN_below w6 q7).mono B6.out.size))
          clear CD B6
          generalize w6.drewN q7 = w8 at *
          go_wp2_with fail
          go_roundg (gk - 1)
          case measure => omega
          case rel => exact ⟨i + 1, addG s A i, by omega, by go_num, by rw [← SG.out], SK.out, B7.out⟩
    · have t0 : decide (i < 8) = false := decide_eq_false hlt
      have t0' : decide ((i : Int) < 8) = false := decide_eq_false (by omega)
      obtain rfl : i = 8 := by omega
      have F := Lib.hid (SE.out s HS.out)
      go_wp2_with fail
      go_ret
      exact ⟨by rw [← F.out]; rfl, Below.step B3.out BE.out⟩

end Go.Proofs.YtpekpgmdjpcpiaaDoor

namespace Go.Proofs
open Go.Shelf
def Tryd.lays156_ren : Go.Shelf.Ren := ⟨fun | 156 => 40 | 165 => 52 | 166 => 53 | 169 => 54 | 240 => 64 | 241 => 65 | 276 => 78 | 277 => 79 | n => n, fun | 31 => 43 | 9 => 9 | 3 => 3 | 4 => 4 | 0 => 0 | 20 => 20 | 72 => 80 | 76 => 68 | 70 => 78 | 37 => 52 | 75 => 67 | 127 => 92 | 164 => 105 | 5 => 5 | 80 => 82 | n => n, fun | n => n⟩
theorem Tryd.lays156 : Go.Proofs.Lays.n156 Tryd.prog Tryd.lays156_ren := {
  mixed := by kernel_rfl
  f156 := Tryd.func40.trans (congrArg some (by kernel_rfl))
  f165 := Tryd.func52.trans (congrArg some (by kernel_rfl))
  f166 := Tryd.func53.trans (congrArg some (by kernel_rfl))
  f169 := Tryd.func54.trans (congrArg some (by kernel_rfl))
  f240 := Tryd.func64.trans (congrArg some (by kernel_rfl))
  f241 := Tryd.func65.trans (congrArg some (by kernel_rfl))
  f276 := Tryd.func78.trans (congrArg some (by kernel_rfl))
  f277 := Tryd.func79.trans (congrArg some (by kernel_rfl))
  t0 := Tryd.underlying0
  a0 := Tryd.isAgg0
  z0 := Tryd.sizeOf0
  v0 := Tryd.zeroValue0
  t3 := Tryd.underlying3
  a3 := Tryd.isAgg3
  z3 := Tryd.sizeOf3
  v3 := Tryd.zeroValue3
  t4 := Tryd.underlying4
  a4 := Tryd.isAgg4
  z4 := Tryd.sizeOf4
  v4 := Tryd.zeroValue4
  t9 := Tryd.underlying9
  a9 := Tryd.isAgg9
  z9 := Tryd.sizeOf9
  v9 := Tryd.zeroValue9
  t20 := Tryd.underlying20
  a20 := Tryd.isAgg20
  z20 := Tryd.sizeOf20
  v20 := Tryd.zeroValue20
  t31 := Tryd.underlying43
  a31 := Tryd.isAgg43
  z31 := Tryd.sizeOf43
  v31 := Tryd.zeroValue43
  t37 := Tryd.underlying52
  a37 := Tryd.isAgg52
  z37 := Tryd.sizeOf52
  v37 := Tryd.zeroValue52
  t70 := Tryd.underlying78
  a70 := Tryd.isAgg78
  z70 := Tryd.sizeOf78
  v70 := Tryd.zeroValue78
  t72 := Tryd.underlying80
  a72 := Tryd.isAgg80
  z72 := Tryd.sizeOf80
  v72 := Tryd.zeroValue80
  t75 := Tryd.underlying67
  a75 := Tryd.isAgg67
  z75 := Tryd.sizeOf67
  v75 := Tryd.zeroValue67
  t76 := Tryd.underlying68
  a76 := Tryd.isAgg68
  z76 := Tryd.sizeOf68
  v76 := Tryd.zeroValue68
  t127 := Tryd.underlying92
  a127 := Tryd.isAgg92
  z127 := Tryd.sizeOf92
  v127 := Tryd.zeroValue92
  t164 := Tryd.underlying105
  a164 := Tryd.isAgg105
  z164 := Tryd.sizeOf105
  v164 := Tryd.zeroValue105 }
theorem Tryd.Builder_Extra_156 : Builder.Extra Tryd.prog Tryd.lays156_ren := {
  sizeBuilder := by kernel_rfl
  liesBuilder := by kernel_rfl
  t5 := Tryd.underlying5
  a5 := Tryd.isAgg5
  z5 := Tryd.sizeOf5
  v5 := Tryd.zeroValue5
  infoByte := by kernel_rfl
  cellsByte := by kernel_rfl
  sizeByte := by kernel_rfl
  neB5 := by decide }
open Go.RowKit in
theorem Tryd.strings_Join_none (a : Option Addr) (c : Nat) (sep : ByteArray) (w : World) :
    Calls Tryd.prog 40 #[.slice a 0 c, .string sep] w fun e w' => e = .returned (.string ⟨#[]⟩) ∧ w' = w := Any.strings_Join_none Tryd.lays156 Tryd.Builder_Extra_156 a c sep w
open Go.RowKit in
theorem Tryd.strings_Join (bk o c : Nat) (xs : List ByteArray) (sep : ByteArray) (w : World) (hcells : ∀ (j : Nat) x, xs[j]? = some x → w.cell? ⟨bk, o + j, none⟩ = some (.string x)) (hbk : bk < w.heap.size) (hN : xs.length ≤ 140737488355328) (hcap : xs.length ≤ c) (hlen : (Lib.join (xs.map (·.data.toList)) sep.data.toList).length ≤ 140737488355328) :
    Calls Tryd.prog 40 #[.slice (some ⟨bk, o, none⟩) xs.length c, .string sep] w fun e w' => e = .returned (.string ⟨(Lib.join (xs.map (·.data.toList)) sep.data.toList).toArray⟩) ∧ Below w.heap.size w w' := Any.strings_Join Tryd.lays156 Tryd.Builder_Extra_156 bk o c xs sep w hcells hbk hN hcap hlen
def Tryd.lays122_ren : Go.Shelf.Ren := ⟨fun | 122 => 34 | 215 => 49 | n => n, fun | 3 => 3 | 4 => 4 | n => n, fun | n => n⟩
theorem Tryd.lays122 : Go.Proofs.Lays.n122 Tryd.prog Tryd.lays122_ren := {
  mixed := by kernel_rfl
  f122 := Tryd.func34.trans (congrArg some (by kernel_rfl))
  f215 := Tryd.func49.trans (congrArg some (by kernel_rfl))
  t3 := Tryd.underlying3
  a3 := Tryd.isAgg3
  z3 := Tryd.sizeOf3
  v3 := Tryd.zeroValue3
  t4 := Tryd.underlying4
  a4 := Tryd.isAgg4
  z4 := Tryd.sizeOf4
  v4 := Tryd.zeroValue4 }
open Go.RowKit in
theorem Tryd.cmp_Compare_int (x y : Int) (w : World) :
    Calls Tryd.prog 34 #[.int .i64 x, .int .i64 y] w fun e w' => e = .returned (.int .i64 (Lib.compareInt x y)) ∧ w' = w := Any.cmp_Compare_int Tryd.lays122 x y w
def Tryd.lays283_ren : Go.Shelf.Ren := ⟨fun | 283 => 66 | n => n, fun | 3 => 3 | 9 => 9 | 4 => 4 | n => n, fun | n => n⟩
theorem Tryd.lays283 : Go.Proofs.Lays.n283 Tryd.prog Tryd.lays283_ren := {
  mixed := by kernel_rfl
  f283 := Tryd.func66.trans (congrArg some (by kernel_rfl))
  t3 := Tryd.underlying3
  a3 := Tryd.isAgg3
  z3 := Tryd.sizeOf3
  v3 := Tryd.zeroValue3
  t4 := Tryd.underlying4
  a4 := Tryd.isAgg4
  z4 := Tryd.sizeOf4
  v4 := Tryd.zeroValue4
  t9 := Tryd.underlying9
  a9 := Tryd.isAgg9
  z9 := Tryd.sizeOf9
  v9 := Tryd.zeroValue9 }
open Go.Lib in
theorem Tryd.internal_strconv_small (i : Nat) (h : i < 100) (w : World) :
    Calls Tryd.prog 66 #[.int .i64 i] w fun e w' => e = .returned (.string ⟨(Lib.decDigits i).toArray⟩) ∧ w' = w := Any.internal_strconv_small Tryd.lays283 i h w
def Tryd.laysM284_ren : Go.Shelf.Ren := ⟨fun | 284 => 67 | 129 => 81 | 317 => 80 | 318 => 82 | n => n, fun | 53 => 74 | 3 => 3 | 212 => 109 | 0 => 0 | 4 => 4 | 46 => 91 | 5 => 5 | 9 => 9 | n => n, fun | 17 => 0 | n => n⟩
theorem Tryd.laysM284 : Go.Proofs.LaysM.n284 Tryd.prog Tryd.laysM284_ren := {
  mixed := by kernel_rfl
  f129 := Tryd.func81.trans (congrArg some (by kernel_rfl))
  f284 := Tryd.func67.trans (congrArg some (by kernel_rfl))
  f317 := Tryd.func80.trans (congrArg some (by kernel_rfl))
  f318 := Tryd.func82.trans (congrArg some (by kernel_rfl))
  t0 := Tryd.underlying0
  a0 := Tryd.isAgg0
  z0 := Tryd.sizeOf0
  v0 := Tryd.zeroValue0
  t3 := Tryd.underlying3
  a3 := Tryd.isAgg3
  z3 := Tryd.sizeOf3
  v3 := Tryd.zeroValue3
  t4 := Tryd.underlying4
  a4 := Tryd.isAgg4
  z4 := Tryd.sizeOf4
  v4 := Tryd.zeroValue4
  t5 := Tryd.underlying5
  a5 := Tryd.isAgg5
  z5 := Tryd.sizeOf5
  v5 := Tryd.zeroValue5
  t9 := Tryd.underlying9
  a9 := Tryd.isAgg9
  z9 := Tryd.sizeOf9
  v9 := Tryd.zeroValue9
  t46 := Tryd.underlying91
  a46 := Tryd.isAgg91
  z46 := Tryd.sizeOf91
  v46 := Tryd.zeroValue91
  t53 := Tryd.underlying74
  a53 := Tryd.isAgg74
  z53 := Tryd.sizeOf74
  v53 := Tryd.zeroValue74
  t212 := Tryd.underlying109
  a212 := Tryd.isAgg109
  z212 := Tryd.sizeOf109
  v212 := Tryd.zeroValue109
  g17 := by kernel_rfl
  i0 := by kernel_rfl
  i3 := by kernel_rfl
  i4 := by kernel_rfl
  i5 := by kernel_rfl
  i9 := by kernel_rfl
  i46 := by kernel_rfl
  i53 := by kernel_rfl
  i212 := by kernel_rfl
  m17 := by kernel_rfl }
open Go.Lib in
theorem Tryd.internal_strconv_numDigits (u : Nat) (h1 : 1 ≤ u) (h2 : u < 18446744073709551616) (w : World) (htab : Lib.TabIs Tryd.prog w "internal/strconv.uint64pow10" .u64 Lib.pow10Tab) :
    Calls Tryd.prog 67 #[.int .u64 u] w fun e w' => e = .returned (.int .i64 (Lib.nDigits u)) ∧ w' = w := Any.internal_strconv_numDigits Tryd.laysM284 u h1 h2 w htab
def Tryd.lays285_ren : Go.Shelf.Ren := ⟨fun | 285 => 68 | n => n, fun | 37 => 52 | 53 => 74 | 3 => 3 | 4 => 4 | 51 => 110 | 9 => 9 | 5 => 5 | 0 => 0 | n => n, fun | n => n⟩
theorem Tryd.lays285 : Go.Proofs.Lays.n285 Tryd.prog Tryd.lays285_ren := {
  mixed := by kernel_rfl
  f285 := Tryd.func68.trans (congrArg some (by kernel_rfl))
  t0 := Tryd.underlying0
  a0 := Tryd.isAgg0
  z0 := Tryd.sizeOf0
  v0 := Tryd.zeroValue0
  t3 := Tryd.underlying3
  a3 := Tryd.isAgg3
  z3 := Tryd.sizeOf3
  v3 := Tryd.zeroValue3
  t4 := Tryd.underlying4
  a4 := Tryd.isAgg4
  z4 := Tryd.sizeOf4
  v4 := Tryd.zeroValue4
  t5 := Tryd.underlying5
  a5 := Tryd.isAgg5
  z5 := Tryd.sizeOf5
  v5 := Tryd.zeroValue5
  t9 := Tryd.underlying9
  a9 := Tryd.isAgg9
  z9 := Tryd.sizeOf9
  v9 := Tryd.zeroValue9
  t37 := Tryd.underlying52
  a37 := Tryd.isAgg52
  z37 := Tryd.sizeOf52
  v37 := Tryd.zeroValue52
  t51 := Tryd.underlying110
  a51 := Tryd.isAgg110
  z51 := Tryd.sizeOf110
  v51 := Tryd.zeroValue110
  t53 := Tryd.underlying74
  a53 := Tryd.isAgg74
  z53 := Tryd.sizeOf74
  v53 := Tryd.zeroValue74 }
open Go.RowKit Go.Sort Go.Lib in
theorem Tryd.internal_strconv_formatBase10 (blk off cap : Nat) (u : Nat) (d : Array UInt8) (w : World) (hH : Holds (fun (b : UInt8) => Value.int .u8 (b.toNat : Int)) w blk off d) (hu : u < 10 ^ d.size) (hu64 : u < 18446744073709551616) (hsz : d.size < 4611686018427387904) :
    Calls Tryd.prog 68 #[.slice (some ⟨blk, off, none⟩) d.size cap, .int .u64 u] w fun e w' =>
      e = .returned (.tuple #[]) ∧ ∃ (n v' : Nat) (dk : Array UInt8), w' = (putRow (fun (b : UInt8) => Value.int .u8 (b.toNat : Int)) w blk off dk).drewN n ∧ FmtInv d.size u 0 v' dk := Any.internal_strconv_formatBase10 Tryd.lays285 blk off cap u d w hH hu hu64 hsz
def Tryd.laysM171_ren : Go.Shelf.Ren := ⟨fun | 171 => 23 | 243 => 41 | 246 => 55 | 283 => 66 | 284 => 67 | 285 => 68 | 286 => 69 | 129 => 81 | 317 => 80 | 318 => 82 | 319 => 83 | 320 => 84 | 337 => 95 | 338 => 96 | n => n, fun | 3 => 3 | 9 => 9 | 2 => 2 | 4 => 4 | 171 => 93 | 0 => 0 | 53 => 74 | 37 => 52 | 5 => 5 | 173 => 96 | 212 => 109 | 51 => 110 | 20 => 20 | 213 => 111 | 46 => 91 | 232 => 130 | 233 => 131 | n => n, fun | 17 => 0 | 18 => 4 | 19 => 5 | n => n⟩
theorem Tryd.laysM171 : Go.Proofs.LaysM.n171 Tryd.prog Tryd.laysM171_ren := {
  mixed := by kernel_rfl
  f129 := Tryd.func81.trans (congrArg some (by kernel_rfl))
  f171 := Tryd.func23.trans (congrArg some (by kernel_rfl))
  f243 := Tryd.func41.trans (congrArg some (by kernel_rfl))
  f246 := Tryd.func55.trans (congrArg some (by kernel_rfl))
  f283 := Tryd.func66.trans (congrArg some (by kernel_rfl))
  f284 := Tryd.func67.trans (congrArg some (by kernel_rfl))
  f285 := Tryd.func68.trans (congrArg some (by kernel_rfl))
  f286 := Tryd.func69.trans (congrArg some (by kernel_rfl))
  f317 := Tryd.func80.trans (congrArg some (by kernel_rfl))
  f318 := Tryd.func82.trans (congrArg some (by kernel_rfl))
  f319 := Tryd.func83.trans (congrArg some (by kernel_rfl))
  f320 := Tryd.func84.trans (congrArg some (by kernel_rfl))
  f337 := Tryd.func95.trans (congrArg some (by kernel_rfl))
  f338 := Tryd.func96.trans (congrArg some (by kernel_rfl))
  t0 := Tryd.underlying0
  a0 := Tryd.isAgg0
  z0 := Tryd.sizeOf0
  v0 := Tryd.zeroValue0
  t2 := Tryd.underlying2
  a2 := Tryd.isAgg2
  z2 := Tryd.sizeOf2
  v2 := Tryd.zeroValue2
  t3 := Tryd.underlying3
  a3 := Tryd.isAgg3
  z3 := Tryd.sizeOf3
  v3 := Tryd.zeroValue3
  t4 := Tryd.underlying4
  a4 := Tryd.isAgg4
  z4 := Tryd.sizeOf4
  v4 := Tryd.zeroValue4
  t5 := Tryd.underlying5
  a5 := Tryd.isAgg5
  z5 := Tryd.sizeOf5
  v5 := Tryd.zeroValue5
  t9 := Tryd.underlying9
  a9 := Tryd.isAgg9
  z9 := Tryd.sizeOf9
  v9 := Tryd.zeroValue9
  t20 := Tryd.underlying20
  a20 := Tryd.isAgg20
  z20 := Tryd.sizeOf20
  v20 := Tryd.zeroValue20
  t37 := Tryd.underlying52
  a37 := Tryd.isAgg52
  z37 := Tryd.sizeOf52
  v37 := Tryd.zeroValue52
  t46 := Tryd.underlying91
  a46 := Tryd.isAgg91
  z46 := Tryd.sizeOf91
  v46 := Tryd.zeroValue91
  t51 := Tryd.underlying110
  a51 := Tryd.isAgg110
  z51 := Tryd.sizeOf110
  v51 := Tryd.zeroValue110
  t53 := Tryd.underlying74
  a53 := Tryd.isAgg74
  z53 := Tryd.sizeOf74
  v53 := Tryd.zeroValue74
  t171 := Tryd.underlying93
  a171 := Tryd.isAgg93
  z171 := Tryd.sizeOf93
  v171 := Tryd.zeroValue93
  t173 := Tryd.underlying96
  a173 := Tryd.isAgg96
  z173 := Tryd.sizeOf96
  v173 := Tryd.zeroValue96
  t212 := Tryd.underlying109
  a212 := Tryd.isAgg109
  z212 := Tryd.sizeOf109
  v212 := Tryd.zeroValue109
  t213 := Tryd.underlying111
  a213 := Tryd.isAgg111
  z213 := Tryd.sizeOf111
  t232 := Tryd.underlying130
  a232 := Tryd.isAgg130
  z232 := Tryd.sizeOf130
  v232 := Tryd.zeroValue130
  t233 := Tryd.underlying131
  a233 := Tryd.isAgg131
  z233 := Tryd.sizeOf131
  v233 := Tryd.zeroValue131
  g17 := by kernel_rfl
  g18 := by kernel_rfl
  g19 := by kernel_rfl
  i0 := by kernel_rfl
  i2 := by kernel_rfl
  i3 := by kernel_rfl
  i4 := by kernel_rfl
  i5 := by kernel_rfl
  i9 := by kernel_rfl
  i20 := by kernel_rfl
  i37 := by kernel_rfl
  i46 := by kernel_rfl
  i51 := by kernel_rfl
  i53 := by kernel_rfl
  i171 := by kernel_rfl
  i173 := by kernel_rfl
  i212 := by kernel_rfl
  i232 := by kernel_rfl
  i233 := by kernel_rfl
  m17 := by kernel_rfl
  m18 := by kernel_rfl
  m19 := by kernel_rfl }
open Go.RowKit Go.Sort Go.Lib in
theorem Tryd.strconv_Itoa (n : Int) (h0 : -9223372036854775808 ≤ n) (h1 : n ≤ 9223372036854775807) (w : World) (htab : Lib.TabIs Tryd.prog w "internal/strconv.uint64pow10" .u64 Lib.pow10Tab) :
    Calls Tryd.prog 23 #[.int .i64 n] w fun e w' => e = .returned (.string ⟨(Lib.itoa n).toArray⟩) ∧ ∃ k os, w' = grow (w.drewN k) os := Any.strconv_Itoa Tryd.laysM171 n h0 h1 w htab
def Tryd.laysC245_ren : Go.Shelf.Ren := ⟨fun | 245 => 58 | 279 => 72 | 280 => 73 | 281 => 74 | 282 => 75 | 316 => 89 | 171 => 23 | 205 => 90 | 243 => 41 | 246 => 55 | 283 => 66 | 284 => 67 | 285 => 68 | 286 => 69 | 129 => 81 | 317 => 80 | 318 => 82 | 319 => 83 | 320 => 84 | 337 => 95 | 338 => 96 | n => n, fun | 9 => 9 | 3 => 3 | 75 => 67 | 167 => 98 | 4 => 4 | 168 => 101 | 210 => 116 | 37 => 52 | 0 => 0 | 127 => 92 | 145 => 126 | 143 => 124 | 2 => 2 | 171 => 93 | 53 => 74 | 5 => 5 | 173 => 96 | 212 => 109 | 51 => 110 | 20 => 20 | 213 => 111 | 46 => 91 | 232 => 130 | 233 => 131 | 80 => 82 | n => n, fun | 15 => 2 | 16 => 3 | 17 => 0 | 18 => 4 | 19 => 5 | n => n⟩
theorem Tryd.laysC245 : Go.Proofs.LaysC.n245 Tryd.prog Tryd.laysC245_ren := {
  mixed := by kernel_rfl
  f129 := Tryd.func81.trans (congrArg some (by kernel_rfl))
  f171 := Tryd.func23.trans (congrArg some (by kernel_rfl))
  f205 := Tryd.func90.trans (congrArg some (by kernel_rfl))
  f243 := Tryd.func41.trans (congrArg some (by kernel_rfl))
  f245 := Tryd.func58.trans (congrArg some (by kernel_rfl))
  f246 := Tryd.func55.trans (congrArg some (by kernel_rfl))
  f279 := Tryd.func72.trans (congrArg some (by kernel_rfl))
  f280 := Tryd.func73.trans (congrArg some (by kernel_rfl))
  f281 := Tryd.func74.trans (congrArg some (by kernel_rfl))
  f282 := Tryd.func75.trans (congrArg some (by kernel_rfl))
  f283 := Tryd.func66.trans (congrArg some (by kernel_rfl))
  f284 := Tryd.func67.trans (congrArg some (by kernel_rfl))
  f285 := Tryd.func68.trans (congrArg some (by kernel_rfl))
  f286 := Tryd.func69.trans (congrArg some (by kernel_rfl))
  f316 := Tryd.func89.trans (congrArg some (by kernel_rfl))
  f317 := Tryd.func80.trans (congrArg some (by kernel_rfl))
  f318 := Tryd.func82.trans (congrArg some (by kernel_rfl))
  f319 := Tryd.func83.trans (congrArg some (by kernel_rfl))
  f320 := Tryd.func84.trans (congrArg some (by kernel_rfl))
  f337 := Tryd.func95.trans (congrArg some (by kernel_rfl))
  f338 := Tryd.func96.trans (congrArg some (by kernel_rfl))
  t0 := Tryd.underlying0
  a0 := Tryd.isAgg0
  z0 := Tryd.sizeOf0
  v0 := Tryd.zeroValue0
  t2 := Tryd.underlying2
  a2 := Tryd.isAgg2
  z2 := Tryd.sizeOf2
  v2 := Tryd.zeroValue2
  t3 := Tryd.underlying3
  a3 := Tryd.isAgg3
  z3 := Tryd.sizeOf3
  v3 := Tryd.zeroValue3
  t4 := Tryd.underlying4
  a4 := Tryd.isAgg4
  z4 := Tryd.sizeOf4
  v4 := Tryd.zeroValue4
  t5 := Tryd.underlying5
  a5 := Tryd.isAgg5
  z5 := Tryd.sizeOf5
  v5 := Tryd.zeroValue5
  t9 := Tryd.underlying9
  a9 := Tryd.isAgg9
  z9 := Tryd.sizeOf9
  v9 := Tryd.zeroValue9
  t20 := Tryd.underlying20
  a20 := Tryd.isAgg20
  z20 := Tryd.sizeOf20
  v20 := Tryd.zeroValue20
  t37 := Tryd.underlying52
  a37 := Tryd.isAgg52
  z37 := Tryd.sizeOf52
  v37 := Tryd.zeroValue52
  t46 := Tryd.underlying91
  a46 := Tryd.isAgg91
  z46 := Tryd.sizeOf91
  v46 := Tryd.zeroValue91
  t51 := Tryd.underlying110
  a51 := Tryd.isAgg110
  z51 := Tryd.sizeOf110
  v51 := Tryd.zeroValue110
  t53 := Tryd.underlying74
  a53 := Tryd.isAgg74
  z53 := Tryd.sizeOf74
  v53 := Tryd.zeroValue74
  t75 := Tryd.underlying67
  a75 := Tryd.isAgg67
  z75 := Tryd.sizeOf67
  v75 := Tryd.zeroValue67
  t127 := Tryd.underlying92
  a127 := Tryd.isAgg92
  z127 := Tryd.sizeOf92
  v127 := Tryd.zeroValue92
  t143 := Tryd.underlying124
  a143 := Tryd.isAgg124
  z143 := Tryd.sizeOf124
  v143 := Tryd.zeroValue124
  t145 := Tryd.underlying126
  a145 := Tryd.isAgg126
  z145 := Tryd.sizeOf126
  v145 := Tryd.zeroValue126
  t167 := Tryd.underlying98
  a167 := Tryd.isAgg98
  z167 := Tryd.sizeOf98
  v167 := Tryd.zeroValue98
  t168 := Tryd.underlying101
  a168 := Tryd.isAgg101
  z168 := Tryd.sizeOf101
  v168 := Tryd.zeroValue101
  t171 := Tryd.underlying93
  a171 := Tryd.isAgg93
  z171 := Tryd.sizeOf93
  v171 := Tryd.zeroValue93
  t173 := Tryd.underlying96
  a173 := Tryd.isAgg96
  z173 := Tryd.sizeOf96
  v173 := Tryd.zeroValue96
  t210 := Tryd.underlying116
  a210 := Tryd.isAgg116
  z210 := Tryd.sizeOf116
  v210 := Tryd.zeroValue116
  t212 := Tryd.underlying109
  a212 := Tryd.isAgg109
  z212 := Tryd.sizeOf109
  v212 := Tryd.zeroValue109
  t213 := Tryd.underlying111
  a213 := Tryd.isAgg111
  z213 := Tryd.sizeOf111
  t232 := Tryd.underlying130
  a232 := Tryd.isAgg130
  z232 := Tryd.sizeOf130
  v232 := Tryd.zeroValue130
  t233 := Tryd.underlying131
  a233 := Tryd.isAgg131
  z233 := Tryd.sizeOf131
  v233 := Tryd.zeroValue131
  g15 := by kernel_rfl
  g16 := by kernel_rfl
  g17 := by kernel_rfl
  g18 := by kernel_rfl
  g19 := by kernel_rfl
  t80 := Tryd.underlying82
  a80 := Tryd.isAgg82
  z80 := Tryd.sizeOf82
  v80 := Tryd.zeroValue82
  i0 := by kernel_rfl
  i2 := by kernel_rfl
  i3 := by kernel_rfl
  i4 := by kernel_rfl
  i5 := by kernel_rfl
  i9 := by kernel_rfl
  i20 := by kernel_rfl
  i37 := by kernel_rfl
  i46 := by kernel_rfl
  i51 := by kernel_rfl
  i53 := by kernel_rfl
  i75 := by kernel_rfl
  i80 := by kernel_rfl
  i127 := by kernel_rfl
  i143 := by kernel_rfl
  i145 := by kernel_rfl
  i167 := by kernel_rfl
  i168 := by kernel_rfl
  i171 := by kernel_rfl
  i173 := by kernel_rfl
  i210 := by kernel_rfl
  i212 := by kernel_rfl
  i232 := by kernel_rfl
  i233 := by kernel_rfl
  m15 := by kernel_rfl
  m16 := by kernel_rfl
  m17 := by kernel_rfl
  m18 := by kernel_rfl
  m19 := by kernel_rfl
  c0 := by kernel_rfl
  c2 := by kernel_rfl
  c3 := by kernel_rfl
  c4 := by kernel_rfl
  c5 := by kernel_rfl
  c9 := by kernel_rfl
  c20 := by kernel_rfl
  c37 := by kernel_rfl
  c46 := by kernel_rfl
  c51 := by kernel_rfl
  c53 := by kernel_rfl
  c75 := by kernel_rfl
  c80 := by kernel_rfl
  c127 := by kernel_rfl
  c143 := by kernel_rfl
  c145 := by kernel_rfl
  c167 := by kernel_rfl
  c168 := by kernel_rfl
  c171 := by kernel_rfl
  c173 := by kernel_rfl
  c210 := by kernel_rfl
  c212 := by kernel_rfl
  c213 := by kernel_rfl
  c232 := by kernel_rfl
  c233 := by kernel_rfl }
open Go.RowKit in
theorem Tryd.strconv_toError_syntax (fn s : ByteArray) (base bits : Int) (ev : Value) (w : World) (hlim : s.size ≤ 281474976710656) (hv : w.cell? ⟨2, 0, none⟩ = some ev) (hev : ev = .nilIface ∨ ∃ te pe, ev = .iface te pe) :
    Calls Tryd.prog 58 #[.string fn, .string s, .int .i64 base, .int .i64 bits, .iface 98 (.int .i64 2)] w fun e w' => ∃ N, e = .returned (.iface 101 (.pointer (some ⟨N, 0, none⟩))) ∧ w.heap.size ≤ N ∧ w'.heap[N]? = some (.cells #[.string fn, .string s, ev] 116 (0, 0)) ∧ Below w.heap.size w w' := Any.strconv_toError_syntax Tryd.laysC245 fn s base bits ev w hlim hv hev
def Tryd.lays321_ren : Go.Shelf.Ren := ⟨fun | 321 => 93 | n => n, fun | 5 => 5 | n => n, fun | n => n⟩
theorem Tryd.lays321 : Go.Proofs.Lays.n321 Tryd.prog Tryd.lays321_ren := {
  mixed := by kernel_rfl
  f321 := Tryd.func93.trans (congrArg some (by kernel_rfl))
  t5 := Tryd.underlying5
  a5 := Tryd.isAgg5
  z5 := Tryd.sizeOf5
  v5 := Tryd.zeroValue5 }
open Go.RowKit in
theorem Tryd.internal_strconv_lower (c : Int) (w : World) :
    Calls Tryd.prog 93 #[.int .u8 c] w fun e w' => e = .returned (.int .u8 (bits .or .u8 c 32)) ∧ w' = w := Any.internal_strconv_lower Tryd.lays321 c w
open Go.RowKit in
theorem Tryd.strconv_toError_range (fn s : ByteArray) (base bits : Int) (ev : Value) (w : World) (hlim : s.size ≤ 281474976710656) (hv : w.cell? ⟨3, 0, none⟩ = some ev) (hev : ev = .nilIface ∨ ∃ te pe, ev = .iface te pe) :
    Calls Tryd.prog 58 #[.string fn, .string s, .int .i64 base, .int .i64 bits, .iface 98 (.int .i64 1)] w fun e w' => ∃ N, e = .returned (.iface 101 (.pointer (some ⟨N, 0, none⟩))) ∧ w.heap.size ≤ N ∧ w'.heap[N]? = some (.cells #[.string fn, .string s, ev] 116 (0, 0)) ∧ Below w.heap.size w w' := Any.strconv_toError_range Tryd.laysC245 fn s base bits ev w hlim hv hev
def Tryd.laysC172_ren : Go.Shelf.Ren := ⟨fun | 172 => 45 | 244 => 57 | 245 => 58 | 247 => 71 | 279 => 72 | 280 => 73 | 281 => 74 | 282 => 75 | 287 => 77 | 316 => 89 | 171 => 23 | 205 => 90 | 321 => 93 | 322 => 94 | 243 => 41 | 246 => 55 | 283 => 66 | 284 => 67 | 285 => 68 | 286 => 69 | 129 => 81 | 317 => 80 | 318 => 82 | 319 => 83 | 320 => 84 | 337 => 95 | 338 => 96 | n => n, fun | 9 => 9 | 3 => 3 | 75 => 67 | 76 => 68 | 4 => 4 | 5 => 5 | 167 => 98 | 37 => 52 | 0 => 0 | 85 => 99 | 2 => 2 | 168 => 101 | 53 => 74 | 175 => 86 | 46 => 91 | 210 => 116 | 127 => 92 | 145 => 126 | 143 => 124 | 21 => 21 | 171 => 93 | 173 => 96 | 212 => 109 | 51 => 110 | 20 => 20 | 213 => 111 | 232 => 130 | 233 => 131 | 80 => 82 | n => n, fun | 15 => 2 | 16 => 3 | 17 => 0 | 18 => 4 | 19 => 5 | n => n⟩
theorem Tryd.laysC172 : Go.Proofs.LaysC.n172 Tryd.prog Tryd.laysC172_ren := {
  mixed := by kernel_rfl
  f129 := Tryd.func81.trans (congrArg some (by kernel_rfl))
  f171 := Tryd.func23.trans (congrArg some (by kernel_rfl))
  f172 := Tryd.func45.trans (congrArg some (by kernel_rfl))
  f205 := Tryd.func90.trans (congrArg some (by kernel_rfl))
  f243 := Tryd.func41.trans (congrArg some (by kernel_rfl))
  f244 := Tryd.func57.trans (congrArg some (by kernel_rfl))
  f245 := Tryd.func58.trans (congrArg some (by kernel_rfl))
  f246 := Tryd.func55.trans (congrArg some (by kernel_rfl))
  f247 := Tryd.func71.trans (congrArg some (by kernel_rfl))
  f279 := Tryd.func72.trans (congrArg some (by kernel_rfl))
  f280 := Tryd.func73.trans (congrArg some (by kernel_rfl))
  f281 := Tryd.func74.trans (congrArg some (by kernel_rfl))
  f282 := Tryd.func75.trans (congrArg some (by kernel_rfl))
  f283 := Tryd.func66.trans (congrArg some (by kernel_rfl))
  f284 := Tryd.func67.trans (congrArg some (by kernel_rfl))
  f285 := Tryd.func68.trans (congrArg some (by kernel_rfl))
  f286 := Tryd.func69.trans (congrArg some (by kernel_rfl))
  f287 := Tryd.func77.trans (congrArg some (by kernel_rfl))
  f316 := Tryd.func89.trans (congrArg some (by kernel_rfl))
  f317 := Tryd.func80.trans (congrArg some (by kernel_rfl))
  f318 := Tryd.func82.trans (congrArg some (by kernel_rfl))
  f319 := Tryd.func83.trans (congrArg some (by kernel_rfl))
  f320 := Tryd.func84.trans (congrArg some (by kernel_rfl))
  f321 := Tryd.func93.trans (congrArg some (by kernel_rfl))
  f322 := Tryd.func94.trans (congrArg some (by kernel_rfl))
  f337 := Tryd.func95.trans (congrArg some (by kernel_rfl))
  f338 := Tryd.func96.trans (congrArg some (by kernel_rfl))
  t0 := Tryd.underlying0
  a0 := Tryd.isAgg0
  z0 := Tryd.sizeOf0
  v0 := Tryd.zeroValue0
  t2 := Tryd.underlying2
  a2 := Tryd.isAgg2
  z2 := Tryd.sizeOf2
  v2 := Tryd.zeroValue2
  t3 := Tryd.underlying3
  a3 := Tryd.isAgg3
  z3 := Tryd.sizeOf3
  v3 := Tryd.zeroValue3
  t4 := Tryd.underlying4
  a4 := Tryd.isAgg4
  z4 := Tryd.sizeOf4
  v4 := Tryd.zeroValue4
  t5 := Tryd.underlying5
  a5 := Tryd.isAgg5
  z5 := Tryd.sizeOf5
  v5 := Tryd.zeroValue5
  t9 := Tryd.underlying9
  a9 := Tryd.isAgg9
  z9 := Tryd.sizeOf9
  v9 := Tryd.zeroValue9
  t20 := Tryd.underlying20
  a20 := Tryd.isAgg20
  z20 := Tryd.sizeOf20
  v20 := Tryd.zeroValue20
  t21 := Tryd.underlying21
  a21 := Tryd.isAgg21
  z21 := Tryd.sizeOf21
  v21 := Tryd.zeroValue21
  t37 := Tryd.underlying52
  a37 := Tryd.isAgg52
  z37 := Tryd.sizeOf52
  v37 := Tryd.zeroValue52
  t46 := Tryd.underlying91
  a46 := Tryd.isAgg91
  z46 := Tryd.sizeOf91
  v46 := Tryd.zeroValue91
  t51 := Tryd.underlying110
  a51 := Tryd.isAgg110
  z51 := Tryd.sizeOf110
  v51 := Tryd.zeroValue110
  t53 := Tryd.underlying74
  a53 := Tryd.isAgg74
  z53 := Tryd.sizeOf74
  v53 := Tryd.zeroValue74
  t75 := Tryd.underlying67
  a75 := Tryd.isAgg67
  z75 := Tryd.sizeOf67
  v75 := Tryd.zeroValue67
  t76 := Tryd.underlying68
  a76 := Tryd.isAgg68
  z76 := Tryd.sizeOf68
  v76 := Tryd.zeroValue68
  t85 := Tryd.underlying99
  a85 := Tryd.isAgg99
  z85 := Tryd.sizeOf99
  v85 := Tryd.zeroValue99
  t127 := Tryd.underlying92
  a127 := Tryd.isAgg92
  z127 := Tryd.sizeOf92
  v127 := Tryd.zeroValue92
  t143 := Tryd.underlying124
  a143 := Tryd.isAgg124
  z143 := Tryd.sizeOf124
  v143 := Tryd.zeroValue124
  t145 := Tryd.underlying126
  a145 := Tryd.isAgg126
  z145 := Tryd.sizeOf126
  v145 := Tryd.zeroValue126
  t167 := Tryd.underlying98
  a167 := Tryd.isAgg98
  z167 := Tryd.sizeOf98
  v167 := Tryd.zeroValue98
  t168 := Tryd.underlying101
  a168 := Tryd.isAgg101
  z168 := Tryd.sizeOf101
  v168 := Tryd.zeroValue101
  t171 := Tryd.underlying93
  a171 := Tryd.isAgg93
  z171 := Tryd.sizeOf93
  v171 := Tryd.zeroValue93
  t173 := Tryd.underlying96
  a173 := Tryd.isAgg96
  z173 := Tryd.sizeOf96
  v173 := Tryd.zeroValue96
  t175 := Tryd.underlying86
  a175 := Tryd.isAgg86
  z175 := Tryd.sizeOf86
  v175 := Tryd.zeroValue86
  t210 := Tryd.underlying116
  a210 := Tryd.isAgg116
  z210 := Tryd.sizeOf116
  v210 := Tryd.zeroValue116
  t212 := Tryd.underlying109
  a212 := Tryd.isAgg109
  z212 := Tryd.sizeOf109
  v212 := Tryd.zeroValue109
  t213 := Tryd.underlying111
  a213 := Tryd.isAgg111
  z213 := Tryd.sizeOf111
  t232 := Tryd.underlying130
  a232 := Tryd.isAgg130
  z232 := Tryd.sizeOf130
  v232 := Tryd.zeroValue130
  t233 := Tryd.underlying131
  a233 := Tryd.isAgg131
  z233 := Tryd.sizeOf131
  v233 := Tryd.zeroValue131
  g15 := by kernel_rfl
  g16 := by kernel_rfl
  g17 := by kernel_rfl
  g18 := by kernel_rfl
  g19 := by kernel_rfl
  t80 := Tryd.underlying82
  a80 := Tryd.isAgg82
  z80 := Tryd.sizeOf82
  v80 := Tryd.zeroValue82
  i0 := by kernel_rfl
  i2 := by kernel_rfl
  i3 := by kernel_rfl
  i4 := by kernel_rfl
  i5 := by kernel_rfl
  i9 := by kernel_rfl
  i20 := by kernel_rfl
  i21 := by kernel_rfl
  i37 := by kernel_rfl
  i46 := by kernel_rfl
  i51 := by kernel_rfl
  i53 := by kernel_rfl
  i75 := by kernel_rfl
  i76 := by kernel_rfl
  i80 := by kernel_rfl
  i85 := by kernel_rfl
  i127 := by kernel_rfl
  i143 := by kernel_rfl
  i145 := by kernel_rfl
  i167 := by kernel_rfl
  i168 := by kernel_rfl
  i171 := by kernel_rfl
  i173 := by kernel_rfl
  i175 := by kernel_rfl
  i210 := by kernel_rfl
  i212 := by kernel_rfl
  i232 := by kernel_rfl
  i233 := by kernel_rfl
  m15 := by kernel_rfl
  m16 := by kernel_rfl
  m17 := by kernel_rfl
  m18 := by kernel_rfl
  m19 := by kernel_rfl
  c0 := by kernel_rfl
  c2 := by kernel_rfl
  c3 := by kernel_rfl
  c4 := by kernel_rfl
  c5 := by kernel_rfl
  c9 := by kernel_rfl
  c20 := by kernel_rfl
  c21 := by kernel_rfl
  c37 := by kernel_rfl
  c46 := by kernel_rfl
  c51 := by kernel_rfl
  c53 := by kernel_rfl
  c75 := by kernel_rfl
  c76 := by kernel_rfl
  c80 := by kernel_rfl
  c85 := by kernel_rfl
  c127 := by kernel_rfl
  c143 := by kernel_rfl
  c145 := by kernel_rfl
  c167 := by kernel_rfl
  c168 := by kernel_rfl
  c171 := by kernel_rfl
  c173 := by kernel_rfl
  c175 := by kernel_rfl
  c210 := by kernel_rfl
  c212 := by kernel_rfl
  c213 := by kernel_rfl
  c232 := by kernel_rfl
  c233 := by kernel_rfl }
open Go.RowKit in
theorem Tryd.strconv_Atoi_ok (s : ByteArray) (hmax : s.size ≤ 9223372036854775806) (v : Int) (h : Lib.atoiAll s.data.toList = .ok v) (w : World) :
    Calls Tryd.prog 45 #[.string s] w fun e w' => e = .returned (.tuple #[.int .i64 v, .nilIface]) ∧ (w' = w ∨ ∃ t, w' = Lib.bytesWorld w 5 t) := Any.strconv_Atoi_ok Tryd.laysC172 s hmax v h w
open Go.RowKit in
theorem Tryd.strconv_Atoi_syntax (s : ByteArray) (hlim : s.size ≤ 281474976710656) (h : Lib.atoiAll s.data.toList = Lib.NumEnd.syntax) (ev : Value) (w : World) (hv : w.cell? ⟨2, 0, none⟩ = some ev) (hev : ev = .nilIface ∨ ∃ te pe, ev = .iface te pe) :
    Calls Tryd.prog 45 #[.string s] w fun e w' => ∃ N, e = .returned (.tuple #[.int .i64 (0), .iface 101 (.pointer (some ⟨N, 0, none⟩))]) ∧ w.heap.size ≤ N ∧ w'.heap[N]? = some (.cells #[.string ⟨#[65, 116, 111, 105]⟩, .string s, ev] 116 (0, 0)) ∧ Below w.heap.size w w' := Any.strconv_Atoi_syntax Tryd.laysC172 s hlim h ev w hv hev
open Go.RowKit in
theorem Tryd.strconv_Atoi_range (s : ByteArray) (hlim : s.size ≤ 281474976710656) (h : Lib.atoiAll s.data.toList = .range) (ev : Value) (w : World) (hv : w.cell? ⟨3, 0, none⟩ = some ev) (hev : ev = .nilIface ∨ ∃ te pe, ev = .iface te pe) :
    Calls Tryd.prog 45 #[.string s] w fun e w' => ∃ N, e = .returned (.tuple #[.int .i64 (Lib.atoiSat s.data.toList), .iface 101 (.pointer (some ⟨N, 0, none⟩))]) ∧ w.heap.size ≤ N ∧ w'.heap[N]? = some (.cells #[.string ⟨#[65, 116, 111, 105]⟩, .string s, ev] 116 (0, 0)) ∧ Below w.heap.size w w' := Any.strconv_Atoi_range Tryd.laysC172 s hlim h ev w hv hev
def Tryd.lays144_ren : Go.Shelf.Ren := ⟨fun | 144 => 47 | 143 => 62 | 219 => 70 | 217 => 85 | 225 => 86 | 224 => 87 | 267 => 88 | 266 => 97 | 314 => 98 | n => n, fun | 9 => 9 | 4 => 4 | 3 => 3 | 5 => 5 | 46 => 91 | 146 => 122 | 51 => 110 | n => n, fun | 1 => 1 | n => n⟩
theorem Tryd.lays144 : Go.Proofs.Lays.n144 Tryd.prog Tryd.lays144_ren := {
  mixed := by kernel_rfl
  f143 := Tryd.func62.trans (congrArg some (by kernel_rfl))
  f144 := Tryd.func47.trans (congrArg some (by kernel_rfl))
  f217 := Tryd.func85.trans (congrArg some (by kernel_rfl))
  f219 := Tryd.func70.trans (congrArg some (by kernel_rfl))
  f224 := Tryd.func87.trans (congrArg some (by kernel_rfl))
  f225 := Tryd.func86.trans (congrArg some (by kernel_rfl))
  f266 := Tryd.func97.trans (congrArg some (by kernel_rfl))
  f267 := Tryd.func88.trans (congrArg some (by kernel_rfl))
  f314 := Tryd.func98.trans (congrArg some (by kernel_rfl))
  t3 := Tryd.underlying3
  a3 := Tryd.isAgg3
  z3 := Tryd.sizeOf3
  v3 := Tryd.zeroValue3
  t4 := Tryd.underlying4
  a4 := Tryd.isAgg4
  z4 := Tryd.sizeOf4
  v4 := Tryd.zeroValue4
  t5 := Tryd.underlying5
  a5 := Tryd.isAgg5
  z5 := Tryd.sizeOf5
  v5 := Tryd.zeroValue5
  t9 := Tryd.underlying9
  a9 := Tryd.isAgg9
  z9 := Tryd.sizeOf9
  v9 := Tryd.zeroValue9
  t46 := Tryd.underlying91
  a46 := Tryd.isAgg91
  z46 := Tryd.sizeOf91
  v46 := Tryd.zeroValue91
  t51 := Tryd.underlying110
  a51 := Tryd.isAgg110
  z51 := Tryd.sizeOf110
  v51 := Tryd.zeroValue110
  t146 := Tryd.underlying122
  a146 := Tryd.isAgg122
  z146 := Tryd.sizeOf122
  v146 := Tryd.zeroValue122
  g1 := by kernel_rfl }
open Go.RowKit Go.Lib in
theorem Tryd.strings_Contains_one (s : ByteArray) (c : UInt8) (w : World) :
    Calls Tryd.prog 47 #[.string s, .string ⟨#[c]⟩] w fun e w' => e = .returned (.bool (decide (0 ≤ Lib.indexByte s.data.toList c))) ∧ w' = w := Any.strings_Contains_one Tryd.lays144 s c w
def Tryd.lays145_ren : Go.Shelf.Ren := ⟨fun | 145 => 44 | 220 => 56 | 219 => 70 | 217 => 85 | 225 => 86 | 224 => 87 | 267 => 88 | 266 => 97 | 314 => 98 | n => n, fun | 9 => 9 | 4 => 4 | 59 => 64 | 3 => 3 | 5 => 5 | 46 => 91 | 146 => 122 | 51 => 110 | n => n, fun | 1 => 1 | n => n⟩
theorem Tryd.lays145 : Go.Proofs.Lays.n145 Tryd.prog Tryd.lays145_ren := {
  mixed := by kernel_rfl
  f145 := Tryd.func44.trans (congrArg some (by kernel_rfl))
  f217 := Tryd.func85.trans (congrArg some (by kernel_rfl))
  f219 := Tryd.func70.trans (congrArg some (by kernel_rfl))
  f220 := Tryd.func56.trans (congrArg some (by kernel_rfl))
  f224 := Tryd.func87.trans (congrArg some (by kernel_rfl))
  f225 := Tryd.func86.trans (congrArg some (by kernel_rfl))
  f266 := Tryd.func97.trans (congrArg some (by kernel_rfl))
  f267 := Tryd.func88.trans (congrArg some (by kernel_rfl))
  f314 := Tryd.func98.trans (congrArg some (by kernel_rfl))
  t3 := Tryd.underlying3
  a3 := Tryd.isAgg3
  z3 := Tryd.sizeOf3
  v3 := Tryd.zeroValue3
  t4 := Tryd.underlying4
  a4 := Tryd.isAgg4
  z4 := Tryd.sizeOf4
  v4 := Tryd.zeroValue4
  t5 := Tryd.underlying5
  a5 := Tryd.isAgg5
  z5 := Tryd.sizeOf5
  v5 := Tryd.zeroValue5
  t9 := Tryd.underlying9
  a9 := Tryd.isAgg9
  z9 := Tryd.sizeOf9
  v9 := Tryd.zeroValue9
  t46 := Tryd.underlying91
  a46 := Tryd.isAgg91
  z46 := Tryd.sizeOf91
  v46 := Tryd.zeroValue91
  t51 := Tryd.underlying110
  a51 := Tryd.isAgg110
  z51 := Tryd.sizeOf110
  v51 := Tryd.zeroValue110
  t59 := Tryd.underlying64
  a59 := Tryd.isAgg64
  z59 := Tryd.sizeOf64
  v59 := Tryd.zeroValue64
  t146 := Tryd.underlying122
  a146 := Tryd.isAgg122
  z146 := Tryd.sizeOf122
  v146 := Tryd.zeroValue122
  g1 := by kernel_rfl }
open Go.RowKit Go.Lib in
theorem Tryd.strings_Cut (s sep : ByteArray) (m : Int) (w : World) (hs : s.size < 4294967281) (hm : w.cell? ⟨1, 0, none⟩ = some (.int .i64 m)) :
    Calls Tryd.prog 44 #[.string s, .string sep] w fun e w' => e = .returned (.tuple #[.string ⟨(Lib.cut s.data.toList sep.data.toList).1.toArray⟩, .string ⟨(Lib.cut s.data.toList sep.data.toList).2.1.toArray⟩, .bool (Lib.cut s.data.toList sep.data.toList).2.2]) ∧ ∃ n, w' = w.drewN n := Any.strings_Cut Tryd.lays145 s sep m w hs hm
def Tryd.lays147_ren : Go.Shelf.Ren := ⟨fun | 147 => 59 | 221 => 76 | 268 => 91 | 138 => 92 | 143 => 62 | 195 => 99 | 197 => 100 | 218 => 101 | 219 => 70 | 260 => 102 | 217 => 85 | 225 => 86 | 224 => 87 | 267 => 88 | 266 => 97 | 314 => 98 | n => n, fun | 9 => 9 | 3 => 3 | 31 => 43 | 4 => 4 | 0 => 0 | 105 => 128 | 21 => 21 | 5 => 5 | 46 => 91 | 119 => 132 | 139 => 135 | 138 => 134 | 146 => 122 | 51 => 110 | n => n, fun | 1 => 1 | 3 => 6 | 4 => 7 | n => n⟩
theorem Tryd.lays147 : Go.Proofs.Lays.n147 Tryd.prog Tryd.lays147_ren := {
  mixed := by kernel_rfl
  f138 := Tryd.func92.trans (congrArg some (by kernel_rfl))
  f143 := Tryd.func62.trans (congrArg some (by kernel_rfl))
  f147 := Tryd.func59.trans (congrArg some (by kernel_rfl))
  f195 := Tryd.func99.trans (congrArg some (by kernel_rfl))
  f197 := Tryd.func100.trans (congrArg some (by kernel_rfl))
  f217 := Tryd.func85.trans (congrArg some (by kernel_rfl))
  f218 := Tryd.func101.trans (congrArg some (by kernel_rfl))
  f219 := Tryd.func70.trans (congrArg some (by kernel_rfl))
  f221 := Tryd.func76.trans (congrArg some (by kernel_rfl))
  f224 := Tryd.func87.trans (congrArg some (by kernel_rfl))
  f225 := Tryd.func86.trans (congrArg some (by kernel_rfl))
  f260 := Tryd.func102.trans (congrArg some (by kernel_rfl))
  f266 := Tryd.func97.trans (congrArg some (by kernel_rfl))
  f267 := Tryd.func88.trans (congrArg some (by kernel_rfl))
  f268 := Tryd.func91.trans (congrArg some (by kernel_rfl))
  f314 := Tryd.func98.trans (congrArg some (by kernel_rfl))
  t0 := Tryd.underlying0
  a0 := Tryd.isAgg0
  z0 := Tryd.sizeOf0
  v0 := Tryd.zeroValue0
  t3 := Tryd.underlying3
  a3 := Tryd.isAgg3
  z3 := Tryd.sizeOf3
  v3 := Tryd.zeroValue3
  t4 := Tryd.underlying4
  a4 := Tryd.isAgg4
  z4 := Tryd.sizeOf4
  v4 := Tryd.zeroValue4
  t5 := Tryd.underlying5
  a5 := Tryd.isAgg5
  z5 := Tryd.sizeOf5
  v5 := Tryd.zeroValue5
  t9 := Tryd.underlying9
  a9 := Tryd.isAgg9
  z9 := Tryd.sizeOf9
  v9 := Tryd.zeroValue9
  t21 := Tryd.underlying21
  a21 := Tryd.isAgg21
  z21 := Tryd.sizeOf21
  v21 := Tryd.zeroValue21
  t31 := Tryd.underlying43
  a31 := Tryd.isAgg43
  z31 := Tryd.sizeOf43
  v31 := Tryd.zeroValue43
  t46 := Tryd.underlying91
  a46 := Tryd.isAgg91
  z46 := Tryd.sizeOf91
  v46 := Tryd.zeroValue91
  t51 := Tryd.underlying110
  a51 := Tryd.isAgg110
  z51 := Tryd.sizeOf110
  v51 := Tryd.zeroValue110
  t105 := Tryd.underlying128
  a105 := Tryd.isAgg128
  z105 := Tryd.sizeOf128
  v105 := Tryd.zeroValue128
  t119 := Tryd.underlying132
  a119 := Tryd.isAgg132
  z119 := Tryd.sizeOf132
  t138 := Tryd.underlying134
  a138 := Tryd.isAgg134
  z138 := Tryd.sizeOf134
  v138 := Tryd.zeroValue134
  t139 := Tryd.underlying135
  a139 := Tryd.isAgg135
  z139 := Tryd.sizeOf135
  v139 := Tryd.zeroValue135
  t146 := Tryd.underlying122
  a146 := Tryd.isAgg122
  z146 := Tryd.sizeOf122
  v146 := Tryd.zeroValue122
  g1 := by kernel_rfl
  g3 := by kernel_rfl
  g4 := by kernel_rfl }
open Go.RowKit Go.Lib in
theorem Tryd.strings_SplitN (s sep : ByteArray) (n : Nat) (m : Int) (w : World) (hs : s.size < 4294967281) (hm : w.cell? ⟨1, 0, none⟩ = some (.int .i64 m)) (h1 : 1 ≤ sep.size) (hn : 1 ≤ n) (hn63 : n ≤ 9223372036854775807) :
    Calls Tryd.prog 59 #[.string s, .string sep, .int .i64 n] w fun e w' =>
      e = .returned (.slice (some ⟨w.heap.size, 0, none⟩) (Lib.splitB sep 0 (min n (s.size + 1) - 1) s).length (min n (s.size + 1))) ∧ w' = w.alloc (.cells (Lib.cellsOf (Lib.splitB sep 0 (min n (s.size + 1) - 1) s) (min n (s.size + 1))) 9) := Any.strings_SplitN Tryd.lays147 (by kernel_rfl) s sep n m w hs hm h1 hn hn63
end Go.Proofs

namespace Go.Proofs.YtpekpgmdjpcpiaaDoor
open Go.RowKit Go.Sort
set_option linter.unusedVariables false

/-- The library's variables that are read. -/
structure Std (w : World) : Prop where
  tab : Lib.TabIs Tryd.prog w "internal/strconv.uint64pow10" .u64 Lib.pow10Tab
  most : ∃ m, w.cell? ⟨1, 0, none⟩ = some (.int .i64 m)
  syn : ∃ ev, w.cell? ⟨2, 0, none⟩ = some ev ∧ (ev = .nilIface ∨ ∃ te pe, ev = .iface te pe)
  ran : ∃ ev, w.cell? ⟨3, 0, none⟩ = some ev ∧ (ev = .nilIface ∨ ∃ te pe, ev = .iface te pe)
  two : w.cell? ⟨5, 15, none⟩ = some (.int .u8 4)
  size : 8 ≤ w.heap.size
theorem Std.later {w w' : World} (h : Std w) (hb : Below w.heap.size w w') : Std w' := by
  have hs := h.size
  obtain ⟨m, hm⟩ := h.most
  obtain ⟨es, h1, h2⟩ := h.syn
  obtain ⟨er, h3, h4⟩ := h.ran
  have c : ∀ g k v, g < 8 → w.cell? ⟨g, k, none⟩ = some v → w'.cell? ⟨g, k, none⟩ = some v := fun g k v hg hv => (hb.cell (p := ⟨g, k, none⟩) (Nat.lt_of_lt_of_le hg hs)).trans hv
  exact ⟨var?_below hb (show Tryd.prog.globalNamed "internal/strconv.uint64pow10" = some 0 by kernel_rfl) (Nat.lt_of_lt_of_le (by decide) hs) h.tab, ⟨m, c _ _ _ (by decide) hm⟩, ⟨es, c _ _ _ (by decide) h1, h2⟩, ⟨er, c _ _ _ (by decide) h3, h4⟩, c _ _ _ (by decide) h.two, Nat.le_trans hs hb.size⟩
theorem Std.drewN {w : World} (h : Std w) (k : Nat) : Std (w.drewN k) := h.later (drewN_below w k)

/-- The library's decimal digits are these. -/
theorem dec_dig (u : Nat) : (⟨(Lib.decDigits u).toArray⟩ : ByteArray) = strOfNums (digZ 10 u) := by
  have h : ∀ u : Nat, Lib.decDigits u = (digZ 10 u).map fun z => UInt8.ofNat z.toNat := by
    intro u
    induction u using Nat.strongRecOn with
    | ind u ih =>
      rcases Nat.lt_or_ge u 10 with h | h
      · rw [Lib.decDigits, dif_pos h, dig_small h]
        simp only [List.map_cons, List.map_nil]
        unfold chrZ
        rw [if_pos h]
        rfl
      · rw [Lib.decDigits, dif_neg (by omega), dig_step (by omega) h, ih (u / 10) (by omega), List.map_append]
        simp only [List.map_cons, List.map_nil]
        unfold chrZ
        rw [if_pos (Nat.mod_lt _ (by omega))]
        rfl
  rw [h]
  rfl

theorem nd3 {u : Nat} (h : 100 ≤ u) (h2 : u < 1000) : Lib.nDigits u = 3 := Lib.nDigits_unique 2 u (by simpa using h) (by simpa using h2)

set_option maxHeartbeats 1000000 in
set_option maxRecDepth 10000 in
theorem fmt10_any (u : Nat) (hu : u < 1000) (w : World) (hs : Std w) :
    Calls Tryd.prog 63 #[.int .u64 (u : Int), .int .i64 10] w fun e w' => e = .returned (.string (strOfNums (digZ 10 u))) ∧ Below w.heap.size w w' := by
  have DD := Lib.hid (dec_dig u)
  by_cases h : u < 100
  · have CS := Lib.hid (fun W => Tryd.internal_strconv_small u h W)
    rw [DD.out] at CS
    have k1 : IntKind.i64.wrap (u : Int) = (u : Int) := IntWalk.i64_in _ (by omega)
    have t1 : decide ((u : Int) < 100) = true := decide_eq_true (by omega)
    generalize strOfNums (digZ 10 u) = D at *
    go_enter Tryd.func63, Tryd.ntmps63
    go_wp2_with (go_at_call 66; refine (CS.out _).mono ?_; rintro e w' ⟨rfl, rfl⟩)
    go_ret
    exact ⟨rfl, Below.refl _ _⟩
  · have n3 := nd3 (by omega) hu
    have t1 : decide ((u : Int) < 100) = false := decide_eq_false (by omega)
    have ND := Lib.hid (fun W (h : Std W) => Tryd.internal_strconv_numDigits u (by omega) (by omega) W h.tab)
    rw [n3] at ND
    have hH : Holds (fun (b : UInt8) => Value.int .u8 (b.toNat : Int)) (w.alloc (.cells Lib.zeros24 93)) w.heap.size 0 (Array.replicate 3 (0 : UInt8)) := fun j hj => by
      have hj' : j < 3 := by simpa using hj
      refine ⟨?_, World.frozen?_alloc_new _ _ _ _⟩
      rw [World.cell?_alloc_new, Lib.zeros24_at _ (by omega), getElem!_pos _ j hj]
      simp
    have HH := Lib.hid hH
    have FM := Lib.hid (Tryd.internal_strconv_formatBase10 w.heap.size 0 24 u (Array.replicate 3 0) (w.alloc (.cells Lib.zeros24 93)) hH (by rw [Array.size_replicate]; omega) (by omega) (by rw [Array.size_replicate]; omega))
    have FM2 := FM.out
    rw [Array.size_replicate] at FM2
    have F := Lib.hid FM2
    have HW : Hid (Std (w.alloc (.cells Lib.zeros24 93))) := Lib.hid (hs.later (box_below w _))
    have LD := Lib.decDigits_length u
    rw [n3] at LD
    have LH := Lib.hid LD
    have n3h := Lib.hid n3
    clear FM FM2 hH n3 LD h
    have hsl : ∀ W, (Instr.sliceAt 93 (.pointer (some ⟨w.heap.size, 0, none⟩)) none (some (.int .i64 3)) none).run Tryd.prog W = .ok (.slice (some ⟨w.heap.size, 0, none⟩) 3 24) W := fun W => by
      have hal : Tryd.prog.arrayLen 93 = 24 := by kernel_rfl
      rw [run_sliceAt_array_h W 93 ⟨w.heap.size, 0, none⟩ Tryd.underlying93 .i64 3 (by omega) (by rw [hal]; omega)]
      rw [hal]
      rfl
    go_enter Tryd.func63, Tryd.ntmps63
    generalize strOfNums (digZ 10 u) = D at *
    go_wp2_with (first
      | (refine Great.wpList_allocTo rfl (some 5) rfl (.pointer (some ⟨w.heap.size, 0, none⟩)) (.cells Lib.zeros24 93) rfl ?_)
      | (go_at_call 67; refine (ND.out _ HW.out).mono ?_; rintro e w' ⟨rfl, rfl⟩))
    go_at_call 68
    refine F.out.mono ?_
    rintro e w' ⟨rfl, k, v', dk, hw', hF⟩
    have FF := Lib.hid hF
    have ED := Lib.hid hw'
    have hcv : (convert 52 9 (.slice (some ⟨w.heap.size, 0, none⟩) 3 24)).run Tryd.prog w' = .ok (.string D) w' := by
      have h := run_convert_bytes_back (P := Tryd.prog) w' 52 9 5 ⟨w.heap.size, 0, none⟩ 24 (Lib.decDigits u) Tryd.underlying52 Tryd.underlying5 Tryd.underlying9 (fun j hj => by
        have hj3 : j < 3 := by rw [LH.out] at hj; exact hj
        have hF' := FF.out
        rw [← n3h.out] at hF'
        rw [Lib.row_is_numeral hF' j hj, Lib.add_plain, ED.out, World.cell?_drewN]
        exact cell?_putRow (fun (b : UInt8) => Value.int .u8 (b.toNat : Int)) _ w.heap.size 0 _ dk HH.out (by rw [FF.out.size, Array.size_replicate]) j (by rw [FF.out.size]; exact hj3))
      rw [LH.out, DD.out] at h
      exact h
    have B' : Hid (Below w.heap.size w w') := Lib.hid (by
      obtain ⟨os, eo⟩ := Lib.fin_at w (.cells Lib.zeros24 93) dk k 0
      rw [ED.out, eo]
      exact Lib.below_grow _ w (Nat.le_refl _) k os)
    clear hw' hF ED FF F HH HW ND LH n3h
    go_wp2_with fail
    go_ret
    exact ⟨rfl, B'.out⟩

end Go.Proofs.YtpekpgmdjpcpiaaDoor

namespace Go.Proofs.YtpekpgmdjpcpiaaDoor
open Go.ChangeShapes Go.WideShapes Go.ChangeAt Go.RowKit

theorem own : ownKnob Tryd.prog.godebug = none := by kernel_rfl
theorem laidOut : laidOutB Tryd.prog = true := by kernel_rfl

def laids : List (String × DataW Unit) := [("math/bits.deBruijn32tab", Rows.laid_math_bits_deBruijn32tab), ("math/bits.deBruijn64tab", Rows.laid_math_bits_deBruijn64tab), ("internal/strconv.uint64pow10", Rows.laid_internal_strconv_uint64pow10), ("unicode/utf8.acceptRanges", Rows.laid_unicode_utf8_acceptRanges), ("strconv.ErrRange", Rows.laid_strconv_ErrRange), ("strconv.ErrSyntax", Rows.laid_strconv_ErrSyntax), ("unicode/utf8.first", Rows.laid_unicode_utf8_first)]

def tab64 : List Int := [0, 1, 56, 2, 57, 49, 28, 3, 61, 58, 42, 50, 38, 29, 17, 4, 62, 47, 59, 36, 45, 43, 51, 22, 53, 39, 33, 30, 24, 18, 12, 5, 63, 55, 48, 27, 60, 41, 37, 16, 46, 35, 44, 21, 52, 32, 23, 11, 54, 26, 40, 15, 34, 20, 31, 10, 25, 14, 19, 9, 13, 8, 7, 6]
theorem laid_tab64 : (Rows.laid_math_bits_deBruijn64tab : DataW Unit) = Lib.tabData .u8 tab64 := by kernel_rfl
theorem laid_pow10 : (Rows.laid_internal_strconv_uint64pow10 : DataW Unit) = Lib.tabData .u64 Lib.pow10Tab := by kernel_rfl

/-- A listed variable of an interface's type holds one. -/
theorem laid_iface {P : Program} {n nm : String} {d : DataW Unit} {r : List (String × DataW Unit)} {W : World} {g : Nat} {ti : TypeId} {ms : Array (String × TypeId)}
    (h : laidMet P ((n, .iface nm d) :: r) W) (hg : P.globalNamed n = some g) (ht : (P.globals[g]?).map (·.type) = some ti) (hi : P.underlying ti = some (.interface ms)) : ∃ u v, W.var? P n = some #[.iface u v] := by
  obtain ⟨ps, ⟨g0, t0, cs0, f0, p0, q0, hg0, ht0, hv0, hd0, _, _⟩, _, _⟩ := h
  obtain rfl := Option.some.inj (hg.symm.trans hg0)
  obtain rfl := Option.some.inj (ht.symm.trans ht0)
  obtain ⟨_, u, v, e, _, _⟩ := iface_of_trod hi hd0
  obtain ⟨l0⟩ := cs0
  obtain rfl : l0 = [.iface u v] := e
  exact ⟨u, v, hv0⟩

theorem std_of {W : World} (hsh : W.ShapedOpen Tryd.prog) (h : laidMetH Tryd.prog laids W.memory) : Std W := by
  rw [MakeChecks.laidMetH_plain _ _ _ (by kernel_rfl)] at h
  have h1 := laidMet.tail h
  have h2 := laidMet.tail h1
  have h3 := laidMet.tail h2
  have h4 := laidMet.tail h3
  have h5 := laidMet.tail h4
  rw [laid_tab64] at h1
  rw [laid_pow10] at h2
  have t64 := Lib.tabIs_of_head (show Tryd.prog.globalNamed "math/bits.deBruijn64tab" = some 5 by kernel_rfl) (show (Tryd.prog.globals[5]?).map (·.type) = some 131 by kernel_rfl) Tryd.underlying131 Tryd.underlying5 (by kernel_rfl) (by kernel_rfl) h1
  have tp := Lib.tabIs_of_head (show Tryd.prog.globalNamed "internal/strconv.uint64pow10" = some 0 by kernel_rfl) (show (Tryd.prog.globals[0]?).map (·.type) = some 109 by kernel_rfl) Tryd.underlying109 Tryd.underlying74 (by kernel_rfl) (by kernel_rfl) h2
  have gr := show Tryd.prog.globalNamed "strconv.ErrRange" = some 3 by kernel_rfl
  have gs := show Tryd.prog.globalNamed "strconv.ErrSyntax" = some 2 by kernel_rfl
  obtain ⟨ur, vr, hr⟩ := laid_iface h4 gr (show (Tryd.prog.globals[3]?).map (·.type) = some 67 by kernel_rfl) Tryd.underlying67
  obtain ⟨us, vs, hs⟩ := laid_iface h5 gs (show (Tryd.prog.globals[2]?).map (·.type) = some 67 by kernel_rfl) Tryd.underlying67
  have cr := World.var?_cell (w := W) gr hr 0
  have cs := World.var?_cell (w := W) gs hs 0
  refine ⟨tp, cell_of_shapedOpen_int (t := 3) (zero := #[.int .i64 0]) hsh (of_decide_eq_true (by kernel_rfl)) (by kernel_rfl) rfl (by kernel_rfl) (by kernel_rfl) Tryd.underlying3, ⟨_, by simpa using cs, .inr ⟨us, vs, rfl⟩⟩, ⟨_, by simpa using cr, .inr ⟨ur, vr, rfl⟩⟩, t64.cell (by kernel_rfl) 15 (by decide), ?_⟩
  obtain ⟨ps, ⟨g0, t0, cs0, f0, p0, q0, hg0, ht0, hv0, hd0, _, _⟩, _, _⟩ := h3
  obtain rfl := Option.some.inj ((show Tryd.prog.globalNamed "unicode/utf8.acceptRanges" = some 7 by kernel_rfl).symm.trans hg0)
  simp only [World.var?, hg0, Option.bind_some] at hv0
  split at hv0
  · rename_i c t fr hc
    have := (Array.getElem?_eq_some_iff.1 hc).1
    exact this
  · cases hv0

section
variable {H : Type} {enc : TypeId × Value → H}
set_option maxRecDepth 100000 in
/-- The wrap: the row's condition is the listed variables'; the call is told what the library's variables hold. -/
theorem wrapped {f : FuncId} {fn : Func} {s : ChangeSpec} {conds : List PathCond} {os : Os} (started : os.Started) (noInit : Tryd.prog.inits.idxOf? f = none) (hfn : Tryd.prog.funcs[f]? = some fn)
    (witness : ∃ (w : World) (tape : Tape) (i : Input), w.os = os ∧ (w.forCall tape i).Shaped Tryd.prog ∧ i.vars = [] ∧ Input.okWide Tryd.prog (w.forCall tape i) .any w.heap.size f i ∧
      ((s.pre enc Tryd.prog fn conds false (w.forCall tape i).memory i.args ∧ laidMetH Tryd.prog laids (w.forCall tape i).memory) ∧ sizedMet enc Tryd.prog fn (OpenSpec.ofChange s) false (w.forCall tape i).memory i.args) ∧ ({} : Assume).holds Tryd.prog (lone (Frame.enter Tryd.prog f i.args .normal) [] (w.forCall tape i)))
    (contract : ∀ (W : World) (base : Nat) (args : Array Value) (ds gs : List (DataW H)) (before : List MemPlace),
      (∀ (j : Nat) t v, fn.params[j]? = some t → args[j]? = some v → Value.okWide Tryd.prog W .any base t v) →
      DataW.Whole enc Tryd.prog fn.params.toList s.vars false W args.toList ds gs before →
      Std W →
      Calls Tryd.prog f args W fun e W' => ∃ v, e = .returned v ∧ s.post enc Tryd.prog fn false true false false W args v W') :
    ReturnsInHanded {} Tryd.checked os f .any (fun w args => (s.pre enc Tryd.prog fn conds false w args ∧ laidMetH Tryd.prog laids w) ∧ sizedMet enc Tryd.prog fn (OpenSpec.ofChange s) false w args) (s.post enc Tryd.prog fn false true false false) := by
  refine returnsInHanded_of_calls (C := Tryd.checked) own started noInit witness ?_
  intro w tape i _ hsh _ hok hpre _
  obtain ⟨_, _, _, fn', hfn', _, _, _, _, hval⟩ := hok
  obtain rfl : fn' = fn := Option.some.inj (hfn'.symm.trans hfn)
  obtain ⟨⟨⟨ds, gs, before, hw, _⟩, hl⟩, _⟩ := hpre
  have ht := std_of hsh hl
  refine (contract (w.forCall tape i) w.heap.size i.args ds gs before hval (DataW.Whole.of_heap (w' := w.forCall tape i) (by rfl) hw) ht).mono fun e W' ⟨v, he, hp⟩ => ?_
  subst he
  exact ChangeSpec.post_blind hp
end
end Go.Proofs.YtpekpgmdjpcpiaaDoor
