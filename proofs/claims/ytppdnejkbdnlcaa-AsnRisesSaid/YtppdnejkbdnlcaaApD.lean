/-
  The package's sorted, for stage 12 (asn).
-/
import Derived.Test.YtppdnejkbdnlcaaApC
import Derived.Test.YtppdnejkbdnlcaaAnV
namespace Go.Proofs.Ytppdnejkbdnlcaa
open Go.RowKit
set_option linter.unusedVariables false

set_option maxHeartbeats 500000 in
/-- How the sort compares two ranges. -/
theorem lessR_any (s t : Nat × Nat) (w : World) : Calls Try.prog 24 #[.agg (rcells s), .agg (rcells t)] w fun e w' => e = .returned (.int .i64 (cmpU s.1 t.1)) ∧ BDR w w' := by
  have CC := Lib.hid (fun W => cmpU_any s.1 t.1 W)
  have BX := Blk.alloc (rbox w s) (.cells (rcells t) 33)
  have by' := rbox (w.alloc (.cells (rcells s) 33)) t
  rw [show (w.alloc (.cells (rcells s) 33)).heap.size = w.heap.size + 1 by simp] at by'
  have c1 : ((w.alloc (.cells (rcells s) 33)).alloc (.cells (rcells t) 33)).cell? ⟨w.heap.size, 0, none⟩ = some (.int .u32 (s.1 : Int)) := Blk.cell BX 0
  have c2 : ((w.alloc (.cells (rcells s) 33)).alloc (.cells (rcells t) 33)).cell? ⟨w.heap.size + 1, 0, none⟩ = some (.int .u32 (t.1 : Int)) := Blk.cell by' 0
  have BW := Lib.hid (BDR.step (bdr_box w (.cells (rcells s) 33)) (bdr_box _ (.cells (rcells t) 33)))
  clear BX by'
  go_enter Try.func24, Try.ntmps24
  generalize cmpU s.1 t.1 = c at *
  generalize s.1 = x at *
  generalize t.1 = y at *
  generalize hw2 : (w.alloc (.cells (rcells s) 33)).alloc (.cells (rcells t) 33) = w2 at *
  go_wp2_with (go_at_call 25; refine (CC.out _).mono ?_; rintro r w3 ⟨rfl, rfl⟩)
  go_ret
  exact ⟨rfl, BW.out⟩

set_option maxHeartbeats 1000000 in
set_option maxRecDepth 10000 in
theorem pkSorted : PkSorted := by
  intro a n c L w hr hn
  have C1 := Lib.hid (cloneR_any a n c L w hr.1 hr.2 hn)
  have hL : L.length ≤ 90000 := by rw [hr.1.1]; exact hn
  have hF : (L.filter validP).length ≤ 90000 := Nat.le_trans (List.length_filter_le _ _) hL
  have C2 : Hid (∀ V W, Hid (RgOut w W V L) → Calls Try.prog 20 #[V, .func (.func 22) #[] #[]] W (GivesInR w (L.filter validP))) := Lib.hid (fun V W h => deleteR_any w W V L h.out hL)
  have C3 : Hid (∀ V W, Hid (RgOut w W V (L.filter validP)) → Calls Try.prog 23 #[V, .func (.func 24) #[] #[]] W fun e w' => e = .returned (.tuple #[]) ∧ ∃ L', L'.Perm (L.filter validP) ∧ RiseR (fun p => p.1) L' ∧ RgOut w w' V L') := Lib.hid (fun V W h => sortR_any (cz := fun x y => cmpU x.1.1 y.1.1) (key := fun p => p.1) 24 (fun x y => cmpU_less) (enters_of Try.func24 (by kernel_rfl) rfl) (fun blk off size w => fun _ _ _ _ x y => (lessR_any x.1 y.1 _).mono (fun _ _ h => ⟨h.1, h.2.grow⟩)) w W V _ h.out hF)
  clear hr hL hF
  go_enter Try.func17, Try.ntmps17
  go_wp2_with (first
    | (go_at_call 21; refine C1.out.mono ?_; rintro r w1 ⟨V1, rfl, ho1⟩; have O1 := Lib.hid ho1; clear ho1 C1)
    | (go_at_call 20; refine (C2.out _ _ O1).mono ?_; rintro r w2 ⟨V2, rfl, ho2⟩; have O2 := Lib.hid ho2; clear ho2 C2 O1)
    | (go_at_call 23; refine (C3.out _ _ O2).mono ?_; rintro r w3 ⟨rfl, L3, hp3, hs3, ho3⟩; have O3 := Lib.hid ho3; have P3 := Lib.hid hp3; have S3 := Lib.hid hs3; clear ho3 hp3 hs3 C3 O2))
  go_ret
  exact ⟨_, _, rfl, O3.out, P3.out, S3.out⟩

end Go.Proofs.Ytppdnejkbdnlcaa
