/-
  What the package's Write answers, for stage 4 (tlv).
-/
import Derived.Test.YtefdfdnfpacfjaaTApp
import Derived.Test.YtefdfdnfpacfjaaTrip
import Derived.Test.YtefdfdnfpacfjaaPirt
namespace Go.Proofs.Ytefdfdnfpacfjaa
open Go.RowKit

/-- Write's answer, and that its bytes lie within their capacity. -/
def GivesWr (x : List Int × Int) (w : World) (e : Ending) (w' : World) : Prop :=
  ∃ a c, e = .returned (.tuple #[.slice a x.1.length c, .int .i64 x.2]) ∧ Row w' a x.1.length x.1 ∧ (a = none → c = 0) ∧ Below w.heap.size w w' ∧ x.1.length ≤ c
theorem GivesWr.plain {x : List Int × Int} {w w' : World} {e : Ending} (h : GivesWr x w e w') : GivesWrite x w e w' := by
  obtain ⟨a, c, h1, h2, h3, h4, _⟩ := h
  exact ⟨a, c, h1, h2, h3, h4⟩
theorem gives_none' {x : List Int × Int} {w w' : World} {z : Int} (h : x = ([], z)) (hb : Below w.heap.size w w') : GivesWr x w (.returned (.tuple #[.slice none 0 0, .int .i64 z])) w' := by
  subst h
  exact ⟨none, 0, rfl, Row.nil _ _, fun _ => rfl, hb, Nat.le_refl _⟩

set_option maxHeartbeats 2000000 in
theorem twrite_big (t : T) (v : Value) (w : World) (hin : t.In w v) (hwt : wt t < 1000000) : Calls Try.prog 14 #[v] w (GivesWr (writeZ t) w) := by
  obtain ⟨A, n, c, K, m, d, rfl, _⟩ := hin.open
  have BX := Lib.hid (Box.start hin)
  clear hin
  cases hrt : rightT t
  · have F := Lib.hid (write_right hrt)
    have RT := Lib.hid hrt
    clear hrt
    go_enter Try.func14, Try.ntmps14
    go_wp2_with fail
    refine (tright_any t _ _ BX.out.has).mono ?_
    rintro e w2 ⟨rfl, hb2⟩
    rw [RT.out]
    have B2 := Lib.hid (Below.step BX.out.below hb2)
    clear hb2
    go_wp2_with fail
    go_ret2
    exact gives_none' F.out B2.out
  have RT := Lib.hid hrt
  have hsz := size_le t
  have key : ∃ x, x = writeZ t ∧ ((32 < deepT t ∧ x = ([], 4)) ∨ (¬ 32 < deepT t ∧ 20000 < bytesT t ∧ x = ([], 5)) ∨ (¬ 32 < deepT t ∧ ¬ 20000 < bytesT t ∧ x = (layT t, 0))) := by
    refine ⟨_, rfl, ?_⟩
    by_cases h1 : 32 < deepT t
    · exact .inl ⟨h1, write_deep hrt h1⟩
    · by_cases h2 : 20000 < bytesT t
      · exact .inr (.inl ⟨h1, h2, write_large hrt h1 h2⟩)
      · exact .inr (.inr ⟨h1, h2, write_ok hrt h1 h2⟩)
  obtain ⟨x, hx, hways⟩ := key
  rw [← hx]
  clear hx hrt
  rcases hways with ⟨h1, hx⟩ | ⟨h1, h2, hx⟩ | ⟨h1, h2, hx⟩
  all_goals
    have HX := Lib.hid hx
    clear hx
    go_enter Try.func14, Try.ntmps14
    go_wp2_with fail
    refine (tright_any t _ _ BX.out.has).mono ?_
    rintro e w2 ⟨rfl, hb2⟩
    rw [RT.out]
    have BX2 := Lib.hid (BX.out.go hb2)
    obtain ⟨g0, g1, g2⟩ := BX2.out.cells
    clear hb2
    go_wp2_with fail
    refine (tsize_big t _ _ BX2.out.has hwt).mono ?_
    rintro e w3 ⟨rfl, hb3⟩
    have BX3 := Lib.hid (BX2.out.go hb3)
    clear g0 g1 g2 hb3
    obtain ⟨g0, g1, g2⟩ := BX3.out.cells
    go_wp2_with fail
  · go_ret2
    exact gives_none' HX.out BX3.out.below
  · go_ret2
    exact gives_none' HX.out BX3.out.below
  · obtain ⟨N, hN⟩ : ∃ N : Nat, bytesT t = (N : Int) := ⟨(bytesT t).toNat, by omega⟩
    have LN := Lib.hid (lay_len t RT.out)
    have hwt : wt t < 30000 := by have := wt_le t RT.out; omega
    rw [hN] at LN h2
    rw [hN]
    have hlN : (layT t).length ≤ N := by have := LN.out; omega
    obtain ⟨B, hBe⟩ : ∃ B, B = w3.heap.size := ⟨_, rfl⟩
    have HBe := Lib.hid hBe
    have l0 : ∀ W, Past B w3.drew W → W.cell? ⟨w.heap.size, 0, none⟩ = some (.int .i64 t.tag) := fun W hW => BX3.out.blk.past (by rw [hBe]; exact BX3.out.blk.lt) hW 0 rfl
    have l1 : ∀ W, Past B w3.drew W → W.cell? ⟨w.heap.size, 1, none⟩ = some (.slice A n c) := fun W hW => BX3.out.blk.past (by rw [hBe]; exact BX3.out.blk.lt) hW 1 rfl
    have l2 : ∀ W, Past B w3.drew W → W.cell? ⟨w.heap.size, 2, none⟩ = some (.slice K m d) := fun W hW => BX3.out.blk.past (by rw [hBe]; exact BX3.out.blk.lt) hW 2 rfl
    clear g0 g1 g2 hBe hsz hN
    refine wp_region_ord (Past B) (Past.refl B) (fun _ _ _ => Past.trans) [(0, false), (2, false), (1, true), (3, true), (4, false), (5, false)] (by kernel_rfl) (by kernel_rfl) rfl (by kernel_rfl) (fun _ _ _ _ _ h => h) ?_
    repeat (refine ord_take _ rfl (by rfl) (fun W hW => by go_simp; first | done | rfl) ?_; simp only [Act.put, List.setIfInBounds_toArray, List.set_cons_zero, List.set_cons_succ])
    clear l0 l1 l2
    have mk := make_bytes N (by omega) w3.drew
    refine ord_sole rfl (by rfl) (fun K1 hK1 => ?_)
    go_simp
    have U1 : Hid (Buf B (w3.drew.alloc (.cells (madeCells #[.int .u8 0] N) 5)) B N []) := by
      rw [HBe.out]
      exact (Out.made (W0 := w3.drew) N (by omega)).1
    have I1 : Hid (t.InP (· ≠ B) (w3.drew.alloc (.cells (madeCells #[.int .u8 0] N) 5)) (.agg #[.int .i64 t.tag, .slice A n c, .slice K m d])) :=
      T.InP.keep (w := w3) (fun b hb hp => ⟨by rw [HBe.out]; omega, Below.heap_alloc w3.drew _ b hb⟩) (by simp) _ (T.In.inP _ BX3.out.has)
    have B1 : Hid (Below w3.heap.size w3 (w3.drew.alloc (.cells (madeCells #[.int .u8 0] N) 5))) := Past.real HBe.out (show Past B w3.drew _ from Past.alloc (by rw [HBe.out]; exact Nat.le_refl _) _)
    have CI : Hid (∀ gg : Nat, gg = B → Calls Try.prog 22 #[.slice (some ⟨gg, 0, none⟩) 0 N, .agg #[.int .i64 t.tag, .slice A n c, .slice K m d]] (w3.drew.alloc (.cells (madeCells #[.int .u8 0] N) 5)) (GivesIns B B N (layT t) (w3.drew.alloc (.cells (madeCells #[.int .u8 0] N) 5)))) := by
      intro gg hgg
      subst hgg
      have h := app_any t _ gg gg N [] _ I1.out U1.out RT.out hwt (by simpa using hlN) (by omega)
      simpa using h
    have hPB : B ≤ (w3.drew.alloc (.cells (madeCells #[.int .u8 0] N) 5)).heap.size := by rw [HBe.out]; simp
    refine hK1 _ _ (Past.alloc (by rw [HBe.out]; exact Nat.le_refl _) _) ?_
    clear hK1 K1 mk
    refine ord_sole rfl (by rfl) (fun K1 hK1 => ?_)
    go_simp
    refine (CI.out _ HBe.out.symm).mono ?_
    rintro e w4 ⟨rfl, hb4, hg4⟩
    have P4 : Hid (Past B (w3.drew.alloc (.cells (madeCells #[.int .u8 0] N) 5)) w4) := grown_below hg4 B (Nat.le_refl _) hPB
    have B4 := Lib.hid (Below.step BX3.out.below (Below.trans B1.out (show Below w3.heap.size _ w4 by have h := P4.out; rw [HBe.out] at h; exact h)))
    have U4 := Lib.hid hb4
    refine hK1 _ _ P4.out ?_
    clear hK1 K1 hb4 hg4 CI I1 U1 hPB
    repeat (refine ord_take _ rfl (by rfl) (fun W hW => by go_simp; first | done | rfl) ?_; simp only [Act.put, List.setIfInBounds_toArray, List.set_cons_zero, List.set_cons_succ])
    refine ord_end ?_
    go_wp2_with fail
    go_ret2
    rw [HX.out]
    exact ⟨_, _, rfl, Row.of_own U4.out (lay_byte t BX3.out.has RT.out), fun e => (by cases e), B4.out, hlN⟩

theorem twrite_any (t : T) (v : Value) (w : World) (hin : t.In w v) (hwt : wt t < 30000) : Calls Try.prog 14 #[v] w (GivesWr (writeZ t) w) := twrite_big t v w hin (by omega)

end Go.Proofs.Ytefdfdnfpacfjaa
