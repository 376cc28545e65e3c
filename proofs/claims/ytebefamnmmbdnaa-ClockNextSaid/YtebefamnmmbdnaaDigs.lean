/-
  What clock.appendDigits, widths and written answer, for stage 3 (clock).
-/
import Derived.Test.YtebefamnmmbdnaaOut
import Derived.Test.YtebefamnmmbdnaaDate
namespace Go.Proofs.Ytebefamnmmbdnaa
open Go.RowKit

/-- The last k digits of a number. -/
def digs : Nat → Int → List Int
  | 0, _ => []
  | k + 1, n => digs k (n / 10) ++ [48 + n % 10]
theorem digs_length (k : Nat) : ∀ n, (digs k n).length = k := by
  induction k with
  | zero => intro n; rfl
  | succ k ih => intro n; rw [digs, List.length_append, ih]; rfl
theorem digs_byte (k : Nat) : ∀ n, ∀ x ∈ digs k n, 48 ≤ x ∧ x ≤ 57 := by
  induction k with
  | zero => intro n x hx; simp [digs] at hx
  | succ k ih =>
    intro n x hx
    rw [digs, List.mem_append] at hx
    rcases hx with hx | hx
    · exact ih _ x hx
    · simp at hx
      omega

/-- A row of the call's own is handed back. -/
def GivesOut (W0 : World) (L : List Int) (e : Ending) (w' : World) : Prop := ∃ V, e = .returned V ∧ Out W0 w' V L

set_option maxHeartbeats 1000000 in
theorem adig_any (W0 : World) : ∀ (k : Nat) (n : Int) (V : Value) (L : List Int) (w : World), k ≤ 4 → 0 ≤ n → n ≤ 100000 → L.length ≤ 1000 → Out W0 w V L → Calls Try.prog 38 #[V, .int .i64 n, .int .i64 (k : Int)] w (GivesOut W0 (L ++ digs k n))
  | 0, n, V, L, w, _, _, _, _, ho => by
    have HO := Lib.hid ho
    clear ho
    go_enter Try.func38, Try.ntmps38
    go_wp2
    go_ret
    exact ⟨V, rfl, by rw [digs, List.append_nil]; exact HO.out⟩
  | k + 1, n, V, L, w, hk, h0, h1, hl, ho => by
    have IH := Lib.hid (adig_any W0 k (n / 10) V L w (by omega) (by omega) (by omega) hl ho)
    clear ho
    have t0 : (((k + 1 : Nat) : Int) == 0) = false := by simp; omega
    have e1 : ((k + 1 : Nat) : Int) - 1 = (k : Int) := by omega
    have b0 : 0 ≤ n % 10 := by omega
    have b1 : n % 10 < 10 := by omega
    have ST : Hid (L ++ digs (k + 1) n = L ++ digs k (n / 10) ++ [48 + n % 10]) := by rw [digs, List.append_assoc]; exact rfl
    have HL : Hid ((L ++ digs k (n / 10)).length ≤ 2000) := Lib.hid (by rw [List.length_append, digs_length]; omega)
    go_enter Try.func38, Try.ntmps38
    go_wp2_with fail
    refine IH.out.mono ?_
    rintro e w1 ⟨V1, rfl, ho1⟩
    have HO := Lib.hid ho1
    clear ho1 IH
    have RW := Lib.hid (row_const w1 [48 + n % 10] (0, 0) (by simp; omega))
    go_wp2_with (at_builtin; refine out_append (W0 := W0) (L := L ++ digs k (n / 10)) (zs := [48 + n % 10]) rfl _ _ rfl rfl (HO.out.alloc _) rfl RW.out (fun e => by cases e) (by have := HL.out; omega) ?_; intro V2 w2 ho2; have HO2 := Lib.hid ho2; clear ho2)
    go_ret
    exact ⟨V2, rfl, by rw [ST.out]; exact HO2.out⟩

theorem widths_any (long : Bool) (w : World) : Calls Try.prog 31 #[.bool long] w fun e w' => e = .returned (.agg (d6c (if long = true then 4 else 2) 2 2 2 2 2)) ∧ Below w.heap.size w w' := by
  cases long
  · go_enter Try.func31, Try.ntmps31
    go_wp2
    exact bodyPost_ret (v := .agg (d6c 2 2 2 2 2 2)) (by simp [results, Try.results31, go_sem, d6c]) rfl ⟨rfl, (Below.refl _ _).alloc (Nat.le_refl _) _⟩
  · go_enter Try.func31, Try.ntmps31
    go_wp2
    exact bodyPost_ret (v := .agg (d6c 4 2 2 2 2 2)) (by simp [results, Try.results31, go_sem, d6c]) rfl ⟨rfl, (Below.refl _ _).alloc (Nat.le_refl _) _⟩

/-- A date's digits, with four of its year. -/
def D6.txt (a : D6) : List Int := digs 4 a.y ++ digs 2 a.m ++ digs 2 a.d ++ digs 2 a.h ++ digs 2 a.i ++ digs 2 a.s
def D6.long (a : D6) : List Int := a.txt ++ [90]
theorem D6.long_length (a : D6) : a.long.length = 15 := by
  unfold D6.long D6.txt
  simp [digs_length]
theorem D6.long_byte (a : D6) : ∀ x ∈ a.long, 0 ≤ x ∧ x ≤ 255 := by
  intro x hx
  unfold D6.long D6.txt at hx
  simp only [List.mem_append, List.mem_singleton] at hx
  rcases hx with (((((h | h) | h) | h) | h) | h) | h
  all_goals first | (have := digs_byte _ _ x h; omega) | omega

/-- The digits of its first k parts. -/
def D6.upto (a : D6) : Nat → List Int
  | 0 => []
  | 1 => digs 4 a.y
  | 2 => digs 4 a.y ++ digs 2 a.m
  | 3 => digs 4 a.y ++ digs 2 a.m ++ digs 2 a.d
  | 4 => digs 4 a.y ++ digs 2 a.m ++ digs 2 a.d ++ digs 2 a.h
  | 5 => digs 4 a.y ++ digs 2 a.m ++ digs 2 a.d ++ digs 2 a.h ++ digs 2 a.i
  | _ => a.txt
theorem D6.upto_length (a : D6) (k : Nat) : (a.upto k).length ≤ 14 := by
  rcases k with _ | _ | _ | _ | _ | _ | k
  all_goals simp [D6.upto, D6.txt, digs_length]

/-- What is newer than W1 is newer than W0. -/
theorem Out.weaken {W0 W1 wr : World} {V : Value} {L : List Int} (h : Out W1 wr V L) (hb : Below W0.heap.size W0 W1) : Out W0 wr V L := by
  refine ⟨⟨h.1.1, ?_⟩, hb.trans (h.2.mono hb.size)⟩
  rcases h.1.2 with h' | ⟨g, cap, cur, e, h1, h2⟩
  · exact .inl h'
  · exact .inr ⟨g, cap, cur, e, Nat.le_trans hb.size h1, h2⟩

theorem make15 (W : World) : (Instr.makeSlice 42 (.int .i64 0) (.int .i64 15)).run Try.prog W = .ok (.slice (some ⟨W.heap.size, 0, none⟩) 0 15) (W.alloc (.cells (madeCells #[.int .u8 0] 15) 5)) := make_bytes 15 (by omega) W

set_option maxRecDepth 100000 in
set_option maxHeartbeats 2000000 in
theorem written_any (y m d h i s : Int) (w : World) (hok : (⟨y, m, d, h, i, s⟩ : D6).ok) : Calls Try.prog 28 #[.agg (d6c y m d h i s)] w (GivesOut w (⟨y, m, d, h, i, s⟩ : D6).long) := by
  obtain ⟨i0, i1, i2, i3, i4, i5⟩ := date_index (.int .i64 4) (.int .i64 2) (.int .i64 2) (.int .i64 2) (.int .i64 2) (.int .i64 2)
  obtain ⟨h1, h2, h3, h4, h5, h6, h7, h8, h9, h10, h11, h12⟩ := hok
  simp only at h1 h2 h3 h4 h5 h6 h7 h8 h9 h10 h11 h12
  have hl := ml_rng y m
  have hmk := make15
  have K0 := Lib.hid (Blk.new w 22 (d6c y m d h i s))
  have HS := Lib.hid (Out.made (W0 := w.alloc (.cells (d6c y m d h i s) 22)) 15 (by omega))
  rw [show (w.alloc (.cells (d6c y m d h i s) 22)).heap.size = w.heap.size + 1 by simp] at HS
  simp only [d6c] at HS K0 ⊢
  go_enter Try.func28, Try.ntmps28
  go_wp2_with fail
  refine (widths_any true _).mono ?_
  rintro e w2 ⟨rfl, hb2⟩
  rw [if_pos rfl]
  simp only [d6c]
  have HO := Lib.hid (HS.out.below hb2)
  clear hb2 HS hmk
  go_wp2
  obtain ⟨W1, HW1⟩ : ∃ W1, W1 = w.alloc (.cells #[.int .i64 y, .int .i64 m, .int .i64 d, .int .i64 h, .int .i64 i, .int .i64 s] 22) := ⟨_, rfl⟩
  have B1 : Hid (Below w.heap.size w W1) := by rw [HW1]; exact (Below.refl _ _).alloc (Nat.le_refl _) _
  have hs1 : w.heap.size + 1 = W1.heap.size := by rw [HW1]; simp
  rw [← HW1] at K0 HO
  clear HW1
  have HS1 := Lib.hid hs1
  clear hs1
  go_loopw [3, 8] (fun V t wr => ∃ k : Nat, k ≤ 6 ∧ t = .int .i64 (k : Int) ∧ Out W1 wr V ((⟨y, m, d, h, i, s⟩ : D6).upto k)) (fun _ t _ => 6 - (intOf t).toNat)
  case atStart => exact ⟨0, by omega, rfl, HO.out⟩
  case round =>
    obtain ⟨k, hk, rfl, hout⟩ := hrel
    have HR := Lib.hid hout
    clear hout HO
    have hul := (⟨y, m, d, h, i, s⟩ : D6).upto_length k
    have bw : w.heap.size < W1.heap.size := by have := HS1.out; omega
    have K2 := Lib.hid (K0.out.below HR.out.2 bw)
    clear bw
    rcases k with _ | _ | _ | _ | _ | _ | _ | k
    · have c : wr.cell? ⟨w.heap.size, 0, none⟩ = some (.int .i64 y) := K2.out.cell 0
      go_wp2_with fail
      refine (adig_any W1 4 y _ _ _ (by omega) (by omega) (by omega) (by omega) HR.out).mono ?_
      rintro e w3 ⟨V3, rfl, ho3⟩
      have HO3 := Lib.hid ho3
      clear ho3 HR
      go_wp2
      go_roundw
      case rel => exact ⟨1, by omega, by go_num, HO3.out⟩
      case measure => simp [intOf]
    · have c : wr.cell? ⟨w.heap.size, 1, none⟩ = some (.int .i64 m) := K2.out.cell 1
      go_wp2_with fail
      refine (adig_any W1 2 m _ _ _ (by omega) (by omega) (by omega) (by omega) HR.out).mono ?_
      rintro e w3 ⟨V3, rfl, ho3⟩
      have HO3 := Lib.hid ho3
      clear ho3 HR
      go_wp2
      go_roundw
      case rel => exact ⟨2, by omega, by go_num, HO3.out⟩
      case measure => simp [intOf]
    · have c : wr.cell? ⟨w.heap.size, 2, none⟩ = some (.int .i64 d) := K2.out.cell 2
      go_wp2_with fail
      refine (adig_any W1 2 d _ _ _ (by omega) (by omega) (by omega) (by omega) HR.out).mono ?_
      rintro e w3 ⟨V3, rfl, ho3⟩
      have HO3 := Lib.hid ho3
      clear ho3 HR
      go_wp2
      go_roundw
      case rel => exact ⟨3, by omega, by go_num, HO3.out⟩
      case measure => simp [intOf]
    · have c : wr.cell? ⟨w.heap.size, 3, none⟩ = some (.int .i64 h) := K2.out.cell 3
      go_wp2_with fail
      refine (adig_any W1 2 h _ _ _ (by omega) (by omega) (by omega) (by omega) HR.out).mono ?_
      rintro e w3 ⟨V3, rfl, ho3⟩
      have HO3 := Lib.hid ho3
      clear ho3 HR
      go_wp2
      go_roundw
      case rel => exact ⟨4, by omega, by go_num, HO3.out⟩
      case measure => simp [intOf]
    · have c : wr.cell? ⟨w.heap.size, 4, none⟩ = some (.int .i64 i) := K2.out.cell 4
      go_wp2_with fail
      refine (adig_any W1 2 i _ _ _ (by omega) (by omega) (by omega) (by omega) HR.out).mono ?_
      rintro e w3 ⟨V3, rfl, ho3⟩
      have HO3 := Lib.hid ho3
      clear ho3 HR
      go_wp2
      go_roundw
      case rel => exact ⟨5, by omega, by go_num, HO3.out⟩
      case measure => simp [intOf]
    · have c : wr.cell? ⟨w.heap.size, 5, none⟩ = some (.int .i64 s) := K2.out.cell 5
      go_wp2_with fail
      refine (adig_any W1 2 s _ _ _ (by omega) (by omega) (by omega) (by omega) HR.out).mono ?_
      rintro e w3 ⟨V3, rfl, ho3⟩
      have HO3 := Lib.hid ho3
      clear ho3 HR
      go_wp2
      go_roundw
      case rel => exact ⟨6, by omega, by go_num, HO3.out⟩
      case measure => simp [intOf]
    · have RW := Lib.hid (row_const wr [90] (0, 0) (by simp))
      go_wp2_with (at_builtin; refine out_append (W0 := W1) (zs := [90]) rfl _ _ rfl rfl (HR.out.alloc _) rfl RW.out (fun e => by cases e) (by omega) ?_; intro V2 w2 ho2; have HO2 := Lib.hid ho2; clear ho2)
      go_ret
      exact ⟨V2, rfl, HO2.out.weaken B1.out⟩
    · omega

end Go.Proofs.Ytebefamnmmbdnaa
