/-
  Merged texts (stage 5): Pk12, Pk14.
-/
import Derived.Test.YtjhffnoddhlikaaDoorGrpG
namespace Go.Proofs.YtjhffnoddhlikaaDoor
open Go.RowKit
set_option linter.unusedVariables false

def Print (s : ByteArray) (k : Nat) : Prop := 32 ≤ nth s k ∧ nth s k ≤ 126
instance (s : ByteArray) (k : Nat) : Decidable (Print s k) := by unfold Print; infer_instance
set_option maxHeartbeats 1000000 in
set_option maxRecDepth 10000 in
theorem printable_any (s : ByteArray) (w : World) (hs : s.size ≤ 1000000) : Calls Tryd.prog 62 #[.string s] w fun e w' => e = .returned (.bool (decide (∀ k, k < s.size → Print s k))) ∧ w' = w := by
  go_enter Tryd.func62, Tryd.ntmps62
  go_wp2_with fail
  go_loopw [6] (fun i wr => ∃ k : Nat, k ≤ s.size ∧ i = .int .i64 (k : Int) ∧ wr = w ∧ ∀ j, j < k → Print s j) (fun i _ => s.size - (intOf i).toNat)
  case atStart => exact ⟨0, by omega, rfl, rfl, fun j hj => by omega⟩
  case round =>
    obtain ⟨k, hk, rfl, rfl, hf⟩ := hrel
    have HF := Lib.hid hf
    clear hf
    by_cases hlt : k < s.size
    · have hi := str_at s k hlt _ rfl
      by_cases hp : Print s k
      · have N : Hid (∀ j, j < k + 1 → Print s j) := fun j hj => by
          rcases Nat.lt_or_ge j k with h | h
          · exact HF.out j h
          · obtain rfl : j = k := by omega
            exact hp
        obtain ⟨f2, f3⟩ := hp
        generalize nth s k = x at hi f2 f3
        clear HF
        go_wp2_with fail
        go_roundw
        case rel => exact ⟨k + 1, by omega, by go_num, trivial, N.out⟩
        case measure => simp [intOf]; omega
      · have F : Hid (decide (∀ k, k < s.size → Print s k) = false) := decide_eq_false (fun h => hp (h k hlt))
        unfold Print at hp
        have hx := nth_range s k
        generalize nth s k = x at hi hp hx
        clear HF
        by_cases b1 : 32 ≤ x
        · have b2 : ¬ x ≤ 126 := by omega
          clear hp
          go_wp2_with fail
          go_ret
          exact ⟨ret_bool F.out.symm, rfl⟩
        · clear hp
          go_wp2_with fail
          go_ret
          exact ⟨ret_bool F.out.symm, rfl⟩
    · obtain rfl : k = s.size := by omega
      have F : Hid (decide (∀ k, k < s.size → Print s k) = true) := decide_eq_true HF.out
      clear HF
      go_wp2_with fail
      go_ret
      exact ⟨ret_bool F.out.symm, rfl⟩

theorem text_is (s : ByteArray) : (∀ k, k < s.size → Fair s k) ↔ (s.size ≤ 200 ∧ ∀ k, k < s.size → Print s k) := by
  unfold Fair Print
  constructor
  · intro h
    refine ⟨?_, fun k hk => (h k hk).2⟩
    rcases Nat.eq_zero_or_pos s.size with h0 | h0
    · omega
    · exact (h 0 h0).1
  · rintro ⟨h1, h2⟩ k hk
    exact ⟨h1, h2 k hk⟩

set_option maxHeartbeats 1000000 in
set_option maxRecDepth 10000 in
theorem text_any (s : ByteArray) (w : World) (hs : s.size ≤ 1000000) : Calls Tryd.prog 33 #[.string s] w (GivesNodeE (textZ s) w) := by
  have S0 := Lib.hid (RB.start w)
  have RN := Lib.hid (Row.nil (w.alloc (.cells #[.int .i64 0, .slice none 0 0, .slice none 0 0] 26)))
  have TI := Lib.hid (text_is s)
  go_enter Tryd.func33, Tryd.ntmps33
  by_cases h2 : 200 < s.size
  · have F : Hid (textZ s = (.node 0 [] [], 1)) := if_neg (fun h => by have := (TI.out.1 h).1; omega)
    go_wp2_with fail
    exact gives_ate (zs := []) (c := 0) F.out rfl rfl rfl S0.out.box S0.out.below (RN.out _) (fun h => absurd h (by simp)) (fun _ => rfl) rfl (by simp)
  have CP := Lib.hid (printable_any s (w.alloc (.cells #[.int .i64 0, .slice none 0 0, .slice none 0 0] 26)) hs)
  go_wp2_with fail
  refine CP.out.mono ?_
  rintro e w1 ⟨rfl, rfl⟩
  clear CP
  by_cases hp : ∀ k, k < s.size → Print s k
  rotate_left
  · have F : Hid (textZ s = (.node 0 [] [], 1)) := if_neg (fun h => hp (TI.out.1 h).2)
    have t0 : decide (∀ k, k < s.size → Print s k) = false := decide_eq_false hp
    rw [t0]
    clear t0 hp TI
    go_wp2_with fail
    exact gives_ate (zs := []) (c := 0) F.out rfl rfl rfl S0.out.box S0.out.below (RN.out _) (fun h => absurd h (by simp)) (fun _ => rfl) rfl (by simp)
  have F : Hid (textZ s = (.node 22 (numsOf s) [], 0)) := if_pos (TI.out.2 ⟨by omega, hp⟩)
  have t0 : decide (∀ k, k < s.size → Print s k) = true := decide_eq_true hp
  rw [t0]
  clear t0 hp TI RN
  generalize w.alloc (.cells #[.int .i64 0, .slice none 0 0, .slice none 0 0] 26) = w0 at *
  obtain ⟨cap, W1, hrun, hrow, hb1, hcap⟩ := Clk.bytes_of s w0
  have S1 := Lib.hid (S0.out.go hb1)
  have R1 := Lib.hid hrow
  obtain ⟨p0, p1, p2, q0, q1, q2⟩ := S1.out.box.six
  have hlt0 : w.heap.size < w0.heap.size := S0.out.box.lt
  have NL := numsOf_length s
  clear hrow hb1
  go_wp2_with fail
  rw [← NL]
  exact gives_leafe (zs := numsOf s) (c := cap) F.out rfl rfl rfl S1.out (by rw [NL]; exact R1.out) (fun _ => ⟨_, _, rfl, hlt0⟩) (fun e => by cases e) rfl (by omega)

end Go.Proofs.YtjhffnoddhlikaaDoor

namespace Go.Proofs.YtjhffnoddhlikaaDoor
open Go.RowKit
set_option linter.unusedVariables false

theorem text_kids (s : ByteArray) : (textZ s).1.kids = [] := by
  unfold textZ
  split <;> rfl
theorem time_kids (S : ByteArray) (ok : Bool) : (timeZ S ok).1.kids = [] := by
  unfold timeZ
  split <;> rfl
theorem words_is (t : T) : wordsZ t = if okE (textZ (strOfNums t.body)) t = true then (strOfNums t.body, 0) else (⟨#[]⟩, 2) := by
  unfold wordsZ okE
  by_cases h : (textZ (strOfNums t.body)).2 = 0 ∧ sameT (textZ (strOfNums t.body)).1 t = true
  · rw [if_pos h, if_pos (decide_eq_true h)]
  · rw [if_neg h, if_neg (by rw [decide_eq_false h]; simp)]
set_option maxHeartbeats 2000000 in
set_option maxRecDepth 100000 in
theorem words_any (t : T) (v : Value) (w : World) (hin : t.In w v) (hwt : t.body.length ≤ 30000) : Calls Tryd.prog 35 #[v] w (GivesStr (wordsZ t) w) := by
  obtain ⟨A, n, c, K, m, d, rfl, hw, hr, hn, hc, hm, hm', hks⟩ := hin.open
  have B2 := Lib.hid (Box.start hin)
  have hcv := conv_at c (hr.below B2.out.below)
  have GZ := Lib.hid (words_is t)
  have KX := Lib.hid (text_kids (strOfNums t.body))
  have hsz : (strOfNums t.body).size ≤ 1000000 := by rw [strOfNums_size]; omega
  obtain ⟨g0, g1, g2⟩ := B2.out.cells
  clear hr hks hc hin hm hm' hw hn hwt
  generalize strOfNums t.body = S at *
  go_enter Tryd.func35, Tryd.ntmps35
  generalize hw2 : w.alloc (.cells #[.int .i64 t.tag, .slice A n c, .slice K m d] 26) = w2 at *
  have CX := Lib.hid (exact_string t _ w2 (textZ S) S KX.out B2.out.has (fun W hW => (text_any S W hsz).mono fun e w' h => h.has))
  go_wp2_with fail
  refine CX.out.mono ?_
  intro e w4 h4
  clear CX
  rcases h4.ways with ⟨hok, rfl, hb4⟩ | ⟨hok, rfl, hb4⟩
  · have F : Hid (wordsZ t = (S, 0)) := by rw [GZ.out, if_pos hok]; exact Lib.hid rfl
    have B4 := Lib.hid (Below.step B2.out.below hb4)
    clear hok hb4 h4 GZ hw2
    go_wp2_with fail
    go_ret2
    exact GivesStr.of F.out B4.out
  · have F : Hid (wordsZ t = (⟨#[]⟩, 2)) := by rw [GZ.out, if_neg (by rw [hok]; simp)]; exact Lib.hid rfl
    have B4 := Lib.hid (Below.step B2.out.below hb4)
    clear hok hb4 h4 GZ hw2
    go_wp2_with fail
    go_ret2
    exact GivesStr.of F.out B4.out

set_option maxHeartbeats 1000000 in
set_option maxRecDepth 10000 in
theorem timeG_any (s : Int) (w : World) : Calls Tryd.prog 37 #[.int .i64 s] w (GivesTime s w) := by
  have S0 := Lib.hid (RB.start w)
  go_enter Tryd.func37, Tryd.ntmps37
  go_wp2_with fail
  generalize hw0 : w.alloc (.cells #[.int .i64 0, .slice none 0 0, .slice none 0 0] 26) = w0 at *
  clear hw0
  refine (Clk.text_any s w0).mono ?_
  rintro e w1 ⟨S, ok, hR, rfl, hb⟩
  have S1 := Lib.hid (S0.out.go hb)
  have hsz := time_size hR
  have TR := Lib.hid hR
  clear hR hb S0
  cases ok
  · have F : Hid (timeZ S false = (.node 0 [] [], 1)) := rfl
    have RN := Lib.hid (Row.nil w1)
    obtain ⟨p0, p1, p2, q0, q1, q2⟩ := S1.out.box.six
    go_wp2_with fail
    exact GivesTime.post TR.out (gives_leafe (zs := []) (c := 0) F.out rfl rfl rfl S1.out (RN.out _) (fun h => absurd h (by simp)) (fun _ => rfl) rfl (by simp))
  · obtain ⟨cap, W1, hrun, hrow, hb1, hcap⟩ := Clk.bytes_of S w1
    have S2 := Lib.hid (S1.out.go hb1)
    have R2 := Lib.hid hrow
    obtain ⟨p0, p1, p2, q0, q1, q2⟩ := S2.out.box.six
    have hlt0 : w.heap.size < w1.heap.size := S1.out.box.lt
    have NL := numsOf_length S
    clear hrow hb1
    by_cases h13 : S.size = 13
    · have F : Hid (timeZ S true = (.node 23 (numsOf S) [], 0)) := by simp [Hid, timeZ, h13]
      have t1 : ((S.size : Int) == 13) = true := by simp; omega
      go_wp2_with fail
      rw [show (13 : Nat) = (numsOf S).length by omega]
      exact GivesTime.post TR.out (gives_leafe (zs := numsOf S) (c := cap) F.out rfl rfl rfl S2.out (by rw [NL]; exact R2.out) (fun _ => ⟨_, _, rfl, hlt0⟩) (fun e => by cases e) rfl (by omega))
    · have F : Hid (timeZ S true = (.node 24 (numsOf S) [], 0)) := by simp [Hid, timeZ, h13]
      have t1 : ((S.size : Int) == 13) = false := by simp; omega
      go_wp2_with fail
      rw [← NL]
      exact GivesTime.post TR.out (gives_leafe (zs := numsOf S) (c := cap) F.out rfl rfl rfl S2.out (by rw [NL]; exact R2.out) (fun _ => ⟨_, _, rfl, hlt0⟩) (fun e => by cases e) rfl (by omega))
theorem time_any (s : Int) (w : World) (hwf : (Lit.int .i64 s).wf = true) : Calls Tryd.prog 37 #[.int .i64 s] w (HasTime s w) :=
  (timeG_any s w).mono fun e w' ⟨S, ok, hR, h⟩ => ⟨S, ok, hR, h.has⟩

theorem readV_no {R : Option Clk.D6} (h : Clk.readB R = false) : Clk.readV R = 0 := by
  cases R with
  | none => rfl
  | some a =>
    have hk : Clk.okB a = false := h
    show Clk.secsR a = 0
    unfold Clk.secsR
    rw [hk]
    rfl
theorem text_zero : ∃ S, Clk.TextR 0 S true := by
  have hd : Clk.IsDate 0 ⟨1970, 1, 1, 0, 0, 0⟩ := by
    unfold Clk.IsDate Clk.D6.ok
    decide
  exact ⟨_, .inl ⟨rfl, .inl ⟨rfl, _, hd, by decide, rfl⟩⟩⟩

set_option maxHeartbeats 2000000 in
set_option maxRecDepth 100000 in
theorem when_any (t : T) (v : Value) (w : World) (hin : t.In w v) (hwt : t.body.length ≤ 30000) : Calls Tryd.prog 39 #[v] w (GivesWhen t w) := by
  obtain ⟨A, n, c, K, m, d, rfl, hw, hr, hn, hc, hm, hm', hks⟩ := hin.open
  have B2 := Lib.hid (Box.start hin)
  have hcv := conv_at c (hr.below B2.out.below)
  have WD : Hid (∀ S ok x, Clk.TextR (Clk.readV (Clk.readD (numsOf (strOfNums t.body)) (t.tag == 24))) S ok → (x = if Clk.readB (Clk.readD (numsOf (strOfNums t.body)) (t.tag == 24)) = true ∧ (timeZ S ok).2 = 0 ∧ sameT (timeZ S ok).1 t = true then (Clk.readV (Clk.readD (numsOf (strOfNums t.body)) (t.tag == 24)), 0) else (0, 2)) → WhenR t x) := fun S ok x h e => ⟨S, ok, h, e⟩
  have NV := Lib.hid (readV_no (R := Clk.readD (numsOf (strOfNums t.body)) (t.tag == 24)))
  have CR := Lib.hid (fun W => Clk.read_any (strOfNums t.body) (t.tag == 24) W)
  obtain ⟨g0, g1, g2⟩ := B2.out.cells
  clear hr hks hc hin hm hm' hw hn
  generalize Clk.readD (numsOf (strOfNums t.body)) (t.tag == 24) = R at *
  generalize strOfNums t.body = S0 at *
  go_enter Tryd.func39, Tryd.ntmps39
  generalize hw2 : w.alloc (.cells #[.int .i64 t.tag, .slice A n c, .slice K m d] 26) = w2 at *
  go_wp2_with fail
  refine (CR.out _).mono ?_
  rintro e w3 ⟨rfl, hb3⟩
  have B3 := Lib.hid (B2.out.go hb3)
  clear hw2 CR B2 hb3 hcv g0 g1 g2
  generalize Clk.readV R = V at *
  generalize Clk.readB R = rb at *
  obtain ⟨g0, g1, g2⟩ := B3.out.cells
  cases rb
  · have F : Hid (WhenR t (0, 2)) := by
      obtain ⟨S, hS⟩ := text_zero
      exact WD.out S true _ (by rw [NV.out rfl]; exact hS) (by simp)
    clear WD NV
    go_wp2_with fail
    go_ret2
    exact ⟨_, F.out, rfl, B3.out.below⟩
  have CX := Lib.hid (exact_i64 t _ w3 (fun X => ∃ S ok, Clk.TextR V S ok ∧ X = timeZ S ok) V (fun X ⟨S, ok, _, e⟩ => by rw [e]; exact time_kids S ok) B3.out.has (fun W hW => (timeG_any V W).mono fun e w' ⟨S, ok, hR, h⟩ => ⟨_, ⟨S, ok, hR, rfl⟩, h.has⟩))
  go_wp2_with fail
  refine CX.out.mono ?_
  rintro e w4 ⟨X, ⟨S, ok, hR, rfl⟩, h4⟩
  clear CX
  have hk : (okE (timeZ S ok) t = true) ↔ ((timeZ S ok).2 = 0 ∧ sameT (timeZ S ok).1 t = true) := by unfold okE; rw [decide_eq_true_iff]
  rcases h4.ways with ⟨hok, rfl, hb4⟩ | ⟨hok, rfl, hb4⟩
  · have F : Hid (WhenR t (V, 0)) := WD.out S ok _ hR (by rw [if_pos ⟨trivial, hk.1 hok⟩])
    have B4 := Lib.hid (B3.out.go hb4)
    clear hok hb4 h4 WD NV hk hR
    go_wp2_with fail
    go_ret2
    exact ⟨_, F.out, rfl, B4.out.below⟩
  · have F : Hid (WhenR t (0, 2)) := WD.out S ok _ hR (by rw [if_neg (fun k => by have := hk.2 k.2; rw [hok] at this; cases this)])
    have B4 := Lib.hid (B3.out.go hb4)
    clear hok hb4 h4 WD NV hk hR
    go_wp2_with fail
    go_ret2
    exact ⟨_, F.out, rfl, B4.out.below⟩

end Go.Proofs.YtjhffnoddhlikaaDoor
