/-
  What the reference's head answers, for stage 4 (tlv).
-/
import Derived.Test.YtefdfdnfpacfjaaParse
namespace Go.Proofs.Ytefdfdnfpacfjaa
open Go.RowKit

def GivesHead (x : Except Int (Nat × Nat)) (k : Nat) (w : World) (e : Ending) (w' : World) : Prop :=
  match x with
  | .error z => e = .returned (.tuple #[.int .i64 0, .int .i64 0, .int .i64 z]) ∧ ∃ q, w' = w.drewN q
  | .ok (h, m) => e = .returned (.tuple #[.int .i64 ((k + h : Nat) : Int), .int .i64 (m : Int), .int .i64 0]) ∧ ∃ q, w' = w.drewN q
theorem gh_bad {x : Except Int (Nat × Nat)} {k q : Nat} {w : World} {z : Int} (h : x = .error z) : GivesHead x k w (.returned (.tuple #[.int .i64 0, .int .i64 0, .int .i64 z])) (w.drewN q) := by
  subst h
  exact ⟨rfl, q, rfl⟩
theorem gh_ok {x : Except Int (Nat × Nat)} {k q h m : Nat} {w : World} {a b : Int} (e : x = .ok (h, m)) (ha : a = ((k + h : Nat) : Int)) (hb : b = m) : GivesHead x k w (.returned (.tuple #[.int .i64 a, .int .i64 b, .int .i64 0])) (w.drewN q) := by
  subst e
  subst ha
  subst hb
  exact ⟨rfl, q, rfl⟩

set_option maxHeartbeats 4000000 in
set_option maxRecDepth 100000 in
theorem head_any (a : Option Addr) (n ca k : Nat) (zs : List Int) (w : World) (hr : Row w a n zs) (hn : n ≤ 30000) (hk : k ≤ n) :
    Calls Try.prog 31 #[.slice a n ca, .int .i64 (k : Int), .int .i64 (n : Int)] w (GivesHead (headL (zs.drop k)) k w) := by
  have hlen : (zs.drop k).length = n - k := by rw [List.length_drop, hr.1]
  by_cases h1 : k = n
  · have F : Hid (headL (zs.drop k) = .error 3) := by rw [headL, if_pos (by omega)]; exact Lib.hid rfl
    subst h1
    clear hlen
    go_enter Try.func31, Try.ntmps31
    go_wp2_with fail
    go_ret3
    exact gh_bad (q := 0) F.out
  obtain ⟨b, off, rfl, hb, hc⟩ := hr.2.2 (by omega)
  have c0 := hc k (by omega)
  have z0 := hr.byte k
  have e0 := at0_drop zs k 0
  rw [Nat.add_zero] at e0
  by_cases h2 : at0 zs k % 32 = 31
  · have F : Hid (headL (zs.drop k) = .error 2) := by rw [headL, if_neg (by omega), if_pos (by rw [e0]; exact h2)]; exact Lib.hid rfl
    clear hlen e0
    unfold at0 at h2
    generalize zs[k]?.getD 0 = x0 at c0 z0 h2
    have t2 : (x0 % 32 == 31) = true := by simpa using h2
    clear h2 hc
    go_enter Try.func31, Try.ntmps31
    go_wp2_with fail
    go_ret3
    exact gh_bad (q := 0) F.out
  have t2 : (zs[k]?.getD 0 % 32 == 31) = false := by unfold at0 at h2; simpa using h2
  by_cases h3 : k + 1 = n
  · have F : Hid (headL (zs.drop k) = .error 3) := by rw [headL, if_neg (by omega), if_neg (by rw [e0]; exact h2), if_pos (by omega)]; exact Lib.hid rfl
    clear hlen e0 h2
    generalize zs[k]?.getD 0 = x0 at c0 z0 t2
    subst h3
    clear hc
    go_enter Try.func31, Try.ntmps31
    go_wp2_with fail
    go_ret3
    exact gh_bad (q := 0) F.out
  have c1 := hc (k + 1) (by omega)
  have z1 := hr.byte (k + 1)
  have e1 := at0_drop zs k 1
  have H3 : ∀ r, headL (zs.drop k) = r ↔ (if at0 zs (k + 1) < 128 then .ok (2, (at0 zs (k + 1)).toNat)
    else if at0 zs (k + 1) = 129 then (if n - k < 3 then .error 3 else if at0 zs (k + 2) < 128 then .error 2 else .ok (3, (at0 zs (k + 2)).toNat))
    else if at0 zs (k + 1) = 130 then (if n - k < 4 then .error 3 else if at0 zs (k + 2) = 0 then .error 2 else .ok (4, (at0 zs (k + 2) * 256 + at0 zs (k + 3)).toNat))
    else .error 2) = r := by
    intro r
    rw [headL, if_neg (by omega), if_neg (by rw [e0]; exact h2), if_neg (by omega), e1, at0_drop, at0_drop, hlen]
  have HH := Lib.hid H3
  clear H3 e0 e1 h2 hlen
  by_cases h4 : at0 zs (k + 1) < 128
  · have F : Hid (headL (zs.drop k) = .ok (2, (at0 zs (k + 1)).toNat)) := (HH.out _).2 (if_pos h4)
    unfold at0 at F h4
    generalize zs[k]?.getD 0 = x0 at c0 z0 t2
    generalize zs[k + 1]?.getD 0 = x1 at c1 z1 h4 F
    clear hc
    go_enter Try.func31, Try.ntmps31
    go_wp2_with fail
    go_ret3
    exact gh_ok (q := 0) F.out (by omega) (by omega)
  have HH1 := Lib.hid (fun r => (HH.out r).trans (by rw [if_neg h4]))
  clear HH
  unfold at0 at HH1 h4
  generalize zs[k]?.getD 0 = x0 at c0 z0 t2
  generalize zs[k + 1]?.getD 0 = x1 at c1 z1 h4 HH1
  by_cases h5 : x1 = 129
  · subst h5
    have H5 := Lib.hid (fun r => (HH1.out r).trans (by rw [if_pos rfl]))
    clear HH1
    by_cases h6 : k + 2 = n
    · have F : Hid (headL (zs.drop k) = .error 3) := (H5.out _).2 (if_pos (by omega))
      subst h6
      clear hc H5
      go_enter Try.func31, Try.ntmps31
      go_wp2_with fail
      go_ret3
      exact gh_bad (q := 0) F.out
    have c2 := hc (k + 2) (by omega)
    have z2 := hr.byte (k + 2)
    have H6 := Lib.hid (fun r => (H5.out r).trans (by rw [if_neg (by omega)]))
    clear H5 hc
    generalize zs[k + 2]?.getD 0 = x2 at c2 z2 H6
    by_cases h7 : x2 < 128
    · have F : Hid (headL (zs.drop k) = .error 2) := (H6.out _).2 (if_pos h7)
      clear H6
      go_enter Try.func31, Try.ntmps31
      go_wp2_with fail
      go_ret3
      exact gh_bad (q := 0) F.out
    · have F : Hid (headL (zs.drop k) = .ok (3, x2.toNat)) := (H6.out _).2 (if_neg h7)
      have t7 : decide (x2 < 128) = false := by simpa using h7
      clear H6
      go_enter Try.func31, Try.ntmps31
      go_wp2_with fail
      have s2 : IntKind.i64.wrap ((k : Int) + 2) = (k : Int) + 2 := IntWalk.i64_in _ (by omega)
      have s3 : IntKind.i64.wrap ((k : Int) + 3) = (k : Int) + 3 := IntWalk.i64_in _ (by omega)
      have n2 : ((k : Int) + 2).toNat = k + 2 := by omega
      have p2 : 0 ≤ (k : Int) + 2 := by omega
      have q2 : (k : Int) + 2 < (n : Int) := by omega
      go_quiet (fail)
      clear s2 s3 n2
      go_wp2_with fail
      go_ret3
      exact gh_ok F.out (by omega) (by omega)
  by_cases h8 : x1 = 130
  · subst h8
    have H5 := Lib.hid (fun r => (HH1.out r).trans (by rw [if_neg h5, if_pos rfl]))
    clear HH1
    by_cases h6 : n - k < 4
    · have F : Hid (headL (zs.drop k) = .error 3) := (H5.out _).2 (if_pos h6)
      have h6' : n ≤ k + 3 := by omega
      clear hc H5 h6
      go_enter Try.func31, Try.ntmps31
      go_wp2_with fail
      go_ret3
      exact gh_bad (q := 0) F.out
    have c2 := hc (k + 2) (by omega)
    have z2 := hr.byte (k + 2)
    have c3 := hc (k + 3) (by omega)
    have z3 := hr.byte (k + 3)
    have H6 := Lib.hid (fun r => (H5.out r).trans (by rw [if_neg h6]))
    clear H5 hc
    generalize zs[k + 2]?.getD 0 = x2 at c2 z2 H6
    generalize zs[k + 3]?.getD 0 = x3 at c3 z3 H6
    by_cases h7 : x2 = 0
    · have F : Hid (headL (zs.drop k) = .error 2) := (H6.out _).2 (if_pos h7)
      have t7 : (x2 == 0) = true := by simpa using h7
      clear H6 h7
      go_enter Try.func31, Try.ntmps31
      go_wp2_with fail
      go_ret3
      exact gh_bad (q := 0) F.out
    · have F : Hid (headL (zs.drop k) = .ok (4, (x2 * 256 + x3).toNat)) := (H6.out _).2 (if_neg h7)
      have t7 : (x2 == 0) = false := by simpa using h7
      clear H6 h7
      go_enter Try.func31, Try.ntmps31
      go_wp2_with fail
      have s2 : IntKind.i64.wrap ((k : Int) + 2) = (k : Int) + 2 := IntWalk.i64_in _ (by omega)
      have s3 : IntKind.i64.wrap ((k : Int) + 3) = (k : Int) + 3 := IntWalk.i64_in _ (by omega)
      have s4 : IntKind.i64.wrap ((k : Int) + 4) = (k : Int) + 4 := IntWalk.i64_in _ (by omega)
      have s5 : IntKind.i64.wrap (x2 * 256) = x2 * 256 := IntWalk.i64_in _ (by omega)
      have s6 : IntKind.i64.wrap (x2 * 256 + x3) = x2 * 256 + x3 := IntWalk.i64_in _ (by omega)
      have n2 : ((k : Int) + 2).toNat = k + 2 := by omega
      have n3 : ((k : Int) + 3).toNat = k + 3 := by omega
      have p2 : 0 ≤ (k : Int) + 2 := by omega
      have q2 : (k : Int) + 2 < (n : Int) := by omega
      have p3 : 0 ≤ (k : Int) + 3 := by omega
      have q3 : (k : Int) + 3 < (n : Int) := by omega
      go_quiet (fail)
      clear s2 s3 s4 s5 s6 n2 n3
      go_wp2_with fail
      go_ret3
      exact gh_ok F.out (by omega) (by omega)
  · have F : Hid (headL (zs.drop k) = .error 2) := (HH1.out _).2 (by rw [if_neg h5, if_neg h8])
    have t5 : (x1 != 129) = true := by simpa using h5
    have t8 : (x1 != 130) = true := by simpa using h8
    clear HH1 h5 h8 hc
    go_enter Try.func31, Try.ntmps31
    go_wp2_with fail
    go_ret3
    exact gh_bad (q := 0) F.out

end Go.Proofs.Ytefdfdnfpacfjaa
