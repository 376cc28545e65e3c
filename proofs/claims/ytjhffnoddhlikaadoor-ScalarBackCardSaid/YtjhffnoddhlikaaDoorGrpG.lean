/-
  Merged texts (stage 5): Pk4, Pk5, Pk6, Pk7, Pk8.
-/
import Derived.Test.YtjhffnoddhlikaaDoorGrpF
import Derived.Test.YtjhffnoddhlikaaDoorShelf
import Derived.Test.YtjhffnoddhlikaaDoorGrpDS
namespace Go.Proofs.YtjhffnoddhlikaaDoor
open Go.RowKit
set_option linter.unusedVariables false

/-- The end of a way that hands back an element that a callee made, and an error. -/
theorem gives_copye {w W W0 : World} {tmps : Array Value} {fn : Func} {p u : Tmp} {x : T × Int} {er : Int} {A : Option Addr} {n c : Nat} {K : Option Addr} {m d : Nat} (hx : x.2 = er) (hf : fn.results = #[.cell p 26, .tmp u]) (hp : tmps.getD p undef = .pointer (some ⟨w.heap.size, 0, none⟩)) (hu : tmps.getD u undef = .int .i64 er) (hrb : RB w W) (hin : x.1.InP (W0.heap.size ≤ ·) W (.agg #[.int .i64 x.1.tag, .slice A n c, .slice K m d])) (hW : w.heap.size < W0.heap.size) :
    bodyPost Tryd.prog fn (GivesNodeE x w) .ret { tmps := tmps, defers := [] } (boxed w W (.int .i64 x.1.tag) (.slice A n c) (.slice K m d)) := by
  obtain ⟨h1, h2⟩ := hrb.boxed (.int .i64 x.1.tag) (.slice A n c) (.slice K m d)
  have h := results_nodee (P := Tryd.prog) hf tmps (boxed w W (.int .i64 x.1.tag) (.slice A n c) (.slice K m d)) w.heap.size 26 #[.int .i64 x.1.tag, .slice A n c, .slice K m d] (0, 0) _ hp h1 Tryd.underlying26 rfl Tryd.sizeNode3
  rw [hu, ← hx] at h
  exact bodyPost_ret h rfl ⟨A, n, c, K, m, d, rfl, boxed_in hin hW _ _ _, h2⟩

set_option maxHeartbeats 1000000 in
theorem uint1_any (x : Int) (w : World) (h0 : 0 ≤ x) (h1 : x ≤ 18446744073709551615) : Calls Tryd.prog 48 #[.int .u64 x] w (GivesNodeE (intT x, 0) w) := by
  have S0 := Lib.hid (RB.start w)
  go_enter Tryd.func48, Tryd.ntmps48
  go_wp2_with fail
  refine (int_any x _ h0 h1).mono ?_
  rintro e w3 ⟨A, n3, c3, K, m3, d3, rfl, hin, hb3⟩
  have S3 := Lib.hid (S0.out.go hb3)
  have IN := Lib.hid hin
  have W2 := Lib.hid (S0.out.box.lt)
  obtain ⟨p0, p1, p2, f0, f1, f2⟩ := S3.out.box.six
  clear hin hb3
  go_wp2_with fail
  exact gives_copye (x := (intT x, 0)) rfl rfl rfl rfl S3.out IN.out W2.out

set_option maxHeartbeats 1000000 in
theorem great1_any (a : Option Addr) (n ca : Nat) (zs : List Int) (w : World) (hr : Row w a n zs) (hnc : n ≤ ca) (hn : n ≤ 100000) (hnil : a = none → ca = 0) : Calls Tryd.prog 52 #[.slice a n ca] w (GivesNodeE (bigT zs, 0) w) := by
  have S0 := Lib.hid (RB.start w)
  have CI := Lib.hid (big_any a n ca zs _ (hr.below S0.out.below) hnc hn hnil)
  clear hr hnil
  go_enter Tryd.func52, Tryd.ntmps52
  go_wp2_with fail
  refine CI.out.mono ?_
  rintro e w3 ⟨A, n3, c3, K, m3, d3, rfl, hin, hb3⟩
  have S3 := Lib.hid (S0.out.go hb3)
  have IN := Lib.hid hin
  have W2 := Lib.hid (S0.out.box.lt)
  obtain ⟨p0, p1, p2, f0, f1, f2⟩ := S3.out.box.six
  clear hin hb3 CI
  go_wp2_with fail
  exact gives_copye (x := (bigT zs, 0)) rfl rfl rfl rfl S3.out IN.out W2.out

set_option maxHeartbeats 2000000 in
set_option maxRecDepth 100000 in
theorem uint_any (t : T) (v : Value) (w : World) (hin : t.In w v) (hwt : t.body.length ≤ 1000000) : Calls Tryd.prog 16 #[v] w (GivesUint (uintZ t) w) := by
  obtain ⟨A, n, c, K, m, d, rfl, hw, hr, hn, hc, hm, hm', hks⟩ := hin.open
  have B2 := Lib.hid (Box.start hin)
  have GZ : Hid (uintZ t = if (numZ 0 t.body).2 = true ∧ sameT t (intT (numZ 0 t.body).1) = true then ((numZ 0 t.body).1, 0) else (0, 2)) := rfl
  have NR := numZ_range t.body hr.2.1 0 (by omega) (by omega)
  have hl := hr.1
  have CN := Lib.hid (num_any A n c t.body _ (hr.below B2.out.below) (by omega))
  obtain ⟨g0, g1, g2⟩ := B2.out.cells
  clear hr hks hc hin hm hm' hw hn hl
  generalize (numZ 0 t.body).1 = x at *
  generalize hz : (numZ 0 t.body).2 = is at *
  clear hz
  go_enter Tryd.func16, Tryd.ntmps16
  generalize hw2 : w.alloc (.cells #[.int .i64 t.tag, .slice A n c, .slice K m d] 26) = w2 at *
  go_wp2_with fail
  refine CN.out.mono ?_
  rintro e w3 ⟨rfl, rfl⟩
  clear hw2 CN
  cases is
  · have F : Hid (uintZ t = (0, 2)) := by rw [GZ.out]; simp [Hid]
    clear GZ
    go_wp2_with fail
    go_ret2
    exact GivesUint.of F.out B2.out.below
  have GX : Hid (uintZ t = if sameT t (intT x) = true then (x, 0) else (0, 2)) := by rw [GZ.out]; simp [Hid]
  clear GZ
  have CX := Lib.hid (exact_u64 t _ w3 (intT x, 0) x rfl B2.out.has (fun W hW => (uint1_any x W NR.1 NR.2).mono fun e w' h => h.has))
  go_wp2_with fail
  refine CX.out.mono ?_
  intro e w4 h4
  clear CX
  rcases h4.ways with ⟨hok, rfl, hb4⟩ | ⟨hok, rfl, hb4⟩
  · have F : Hid (uintZ t = (x, 0)) := by
      rw [GX.out, if_pos ((same_iff _ _).2 ((ok_iff _ _).1 hok).2.symm)]
      exact Lib.hid rfl
    have B4 := Lib.hid (Below.step B2.out.below hb4)
    clear hok hb4 h4 GX
    go_wp2_with fail
    go_ret2
    exact GivesUint.of F.out B4.out
  · have F : Hid (uintZ t = (0, 2)) := by
      rw [GX.out, if_neg (fun k => (ok_iff_not _ _).1 hok ⟨rfl, ((same_iff _ _).1 k).symm⟩)]
      exact Lib.hid rfl
    have B4 := Lib.hid (Below.step B2.out.below hb4)
    clear hok hb4 h4 GX
    go_wp2_with fail
    go_ret2
    exact GivesUint.of F.out B4.out

set_option maxHeartbeats 2000000 in
set_option maxRecDepth 100000 in
theorem great_any (t : T) (v : Value) (w : World) (hin : t.In w v) (hcap : Capped v) (hwt : t.body.length ≤ 30000) : Calls Tryd.prog 18 #[v] w (GivesBE (greatZ t) w) := by
  obtain ⟨A, n, c, K, m, d, rfl, hw, hr, hn, hc, hm, hm', hks⟩ := hin.open
  have hnc := hcap.is
  have BX := Lib.hid (Box.start hin)
  have hby := hr.2.1
  have hbb : ∀ x ∈ bareZ t.body, 0 ≤ x ∧ x ≤ 255 := fun x hx => hby x (bare_mem hx)
  have hle := bare_le t.body
  have hl := hr.1
  have GZ : Hid (greatZ t = if sameT t (bigT (bareZ t.body)) = true then (bareZ t.body, 0) else ([], 2)) := rfl
  have CI := Lib.hid (bareW_any A n c t.body _ (hr.below BX.out.below) hnc (by omega) hc)
  obtain ⟨g0, g1, g2⟩ := BX.out.cells
  clear hr hks hc hin hcap hby hm hm' hw hn
  go_enter Tryd.func18, Tryd.ntmps18
  generalize hw2 : w.alloc (.cells #[.int .i64 t.tag, .slice A n c, .slice K m d] 26) = w2 at *
  go_wp2_with fail
  refine CI.out.mono ?_
  rintro e w3 ⟨b3, c3, rfl, hr3, hn3, hc3, rfl⟩
  clear hw2 CI
  have CC := Lib.hid (clone_any b3 _ c3 _ _ hr3 hc3 (by omega) hn3)
  clear hr3 hn3
  go_wp2_with fail
  refine CC.out.mono ?_
  rintro e w4 ⟨b4, c4, rfl, hr4, hn4, hc4, hb4⟩
  have B4 := Lib.hid (BX.out.go hb4)
  have R4 := Lib.hid hr4
  have N4 := Lib.hid hn4
  clear hr4 hn4 hb4 CC BX g0 g1 g2
  obtain ⟨g0, g1, g2⟩ := B4.out.cells
  have CX := Lib.hid (exact_bytes t _ w4 (bigT (bareZ t.body), 0) b4 (bareZ t.body).length c4 rfl B4.out.has (fun W hW => (great1_any b4 _ c4 _ W (R4.out.below hW) hc4 (by omega) N4.out).mono fun e w' h => h.has))
  go_wp2_with fail
  refine CX.out.mono ?_
  intro e w5 h5
  clear CX
  rcases h5.ways with ⟨hok, rfl, hb5⟩ | ⟨hok, rfl, hb5⟩
  · have F : Hid (greatZ t = (bareZ t.body, 0)) := by
      rw [GZ.out, if_pos ((same_iff _ _).2 ((ok_iff _ _).1 hok).2.symm)]
      exact Lib.hid rfl
    have B5 := Lib.hid (Below.step B4.out.below hb5)
    have R5 := Lib.hid (R4.out.below hb5)
    clear hok hb5 h5 GZ
    go_wp2_with fail
    go_ret2
    rw [F.out]
    exact ⟨b4, c4, rfl, R5.out, N4.out, hc4, B5.out⟩
  · have F : Hid (greatZ t = ([], 2)) := by
      rw [GZ.out, if_neg (fun k => (ok_iff_not _ _).1 hok ⟨rfl, ((same_iff _ _).1 k).symm⟩)]
      exact Lib.hid rfl
    have B5 := Lib.hid (Below.step B4.out.below hb5)
    clear hok hb5 h5 GZ
    go_wp2_with fail
    go_ret2
    rw [F.out]
    exact ⟨none, 0, rfl, Row.nil _ _, fun _ => rfl, Nat.le_refl _, B5.out⟩

end Go.Proofs.YtjhffnoddhlikaaDoor

namespace Go.Proofs.YtjhffnoddhlikaaDoor
open Go.RowKit
set_option linter.unusedVariables false

/-! ### Sevens, from the front -/
def segN : Nat → Nat → List Int
  | 0, _ => []
  | k + 1, n => ((n / 128 ^ (k + 1) % 128 + 128 : Nat) : Int) :: segN k n
theorem seg_snoc (k n : Nat) : segN (k + 1) n = segN k (n / 128) ++ [((n / 128 % 128 + 128 : Nat) : Int)] := by
  induction k with
  | zero => simp [segN]
  | succ k ih =>
    rw [segN, ih, segN, List.cons_append, Nat.div_div_eq_div_mul, ← Nat.pow_succ']
theorem sev_seg (k : Nat) : ∀ (n : Nat) (acc : List Int), n < 128 ^ (k + 1) → (k = 0 ∨ 128 ^ k ≤ n) → sevN n acc = segN k n ++ acc := by
  induction k with
  | zero =>
    intro n acc h _
    rw [sevN_end (by simpa using h)]
    rfl
  | succ k ih =>
    intro n acc h h0
    have h1 : 128 ^ (k + 1) ≤ n := by rcases h0 with h0 | h0; omega; exact h0
    have hp : 0 < 128 ^ k := Nat.pow_pos (by decide)
    have h2 : 128 ≤ n := by rw [Nat.pow_succ] at h1; omega
    rw [sevN_more h2, ih (n / 128) _ (by rw [Nat.pow_succ] at h; omega) (.inr (by rw [Nat.pow_succ] at h1; omega)), seg_snoc, List.append_assoc, List.singleton_append]
    simp
theorem seven_seg {k n : Nat} (h : n < 128 ^ (k + 1)) (h0 : k = 0 ∨ 128 ^ k ≤ n) : sevenN n = segN k n ++ [((n % 128 : Nat) : Int)] := sev_seg k n _ h h0
/-- How many bytes follow, told by the bits. -/
theorem follow_is {n : Nat} (h : n < 2 ^ 32) : ∃ k : Nat, k ≤ 4 ∧ (((Lib.bitLen n : Nat) : Int) - 1).tdiv 7 = (k : Int) ∧ n < 128 ^ (k + 1) ∧ (k = 0 ∨ 128 ^ k ≤ n) := by
  have key : ∀ j : Nat, 7 * j < 64 → 128 ^ j ≤ n → n < 128 ^ (j + 1) → 7 * j + 1 ≤ Lib.bitLen n ∧ Lib.bitLen n ≤ 7 * j + 7 := by
    intro j hj h1 h2
    have e : (128 : Nat) ^ j = 2 ^ (7 * j) := by rw [Nat.pow_mul]
    have hp : 0 < (128 : Nat) ^ j := Nat.pow_pos (by decide)
    have hs := Lib.bitLen_shift (7 * j) n (by rw [← e]; exact h1) (by omega)
    rw [← e] at hs
    have hq : n / 128 ^ j < 128 := by rw [Nat.div_lt_iff_lt_mul hp, Nat.mul_comm, ← Nat.pow_succ]; exact h2
    have hq1 : 1 ≤ n / 128 ^ j := (Nat.one_le_div_iff hp).2 h1
    have hb := Lib.bitLen_half (n / 128 ^ j) (by omega) (by omega)
    have hb7 := Lib.bitLen_le (n / 128 ^ j) 7 (by decide) hq
    omega
  rcases Nat.lt_or_ge n 128 with c1 | c1
  · refine ⟨0, by omega, ?_, by omega, .inl rfl⟩
    have hb7 := Lib.bitLen_le n 7 (by decide) c1
    generalize Lib.bitLen n = b at *
    rcases Nat.eq_zero_or_pos b with rfl | hb
    · rfl
    · rw [Int.tdiv_eq_ediv_of_nonneg (by omega)]; omega
  rcases Nat.lt_or_ge n 16384 with c2 | c2
  · have := key 1 (by omega) (by omega) (by omega)
    refine ⟨1, by omega, ?_, by omega, .inr (by omega)⟩
    rw [Int.tdiv_eq_ediv_of_nonneg (by omega)]; omega
  rcases Nat.lt_or_ge n 2097152 with c3 | c3
  · have := key 2 (by omega) (by omega) (by omega)
    refine ⟨2, by omega, ?_, by omega, .inr (by omega)⟩
    rw [Int.tdiv_eq_ediv_of_nonneg (by omega)]; omega
  rcases Nat.lt_or_ge n 268435456 with c4 | c4
  · have := key 3 (by omega) (by omega) (by omega)
    refine ⟨3, by omega, ?_, by omega, .inr (by omega)⟩
    rw [Int.tdiv_eq_ediv_of_nonneg (by omega)]; omega
  · have := key 4 (by omega) (by omega) (by omega)
    refine ⟨4, by omega, ?_, by omega, .inr (by omega)⟩
    rw [Int.tdiv_eq_ediv_of_nonneg (by omega)]; omega

theorem or128_all : ∀ a : Fin 256, bits .or .u8 128 (a.val : Int) = ((a.val % 128 + 128 : Nat) : Int) := by decide +kernel
theorem andNot128_all : ∀ a : Fin 256, bits .andNot .u8 (a.val : Int) 128 = ((a.val % 128 : Nat) : Int) := by decide +kernel
theorem and128_all : ∀ a : Fin 256, bits .and .u8 (a.val : Int) 128 = if a.val < 128 then 0 else 128 := by decide +kernel
theorem or128_is {x : Int} (n : Nat) (h : x = (n : Int) % 256) : bits .or .u8 128 x = ((n % 128 + 128 : Nat) : Int) := by
  have := or128_all ⟨n % 256, by omega⟩
  rw [h, show (n : Int) % 256 = ((n % 256 : Nat) : Int) by omega, this]
  simp only
  omega
theorem andNot128_is (x : Int) (h0 : 0 ≤ x) (h1 : x ≤ 255) : bits .andNot .u8 x 128 = x % 128 := by
  have := andNot128_all ⟨x.toNat, by omega⟩
  rw [show ((⟨x.toNat, by omega⟩ : Fin 256).val : Int) = x by simp; omega] at this
  rw [this]
  simp only
  omega
theorem seg_next (j n : Nat) (P : List Int) : P ++ segN (j + 1) n = (P ++ [((n / 128 ^ (j + 1) % 128 + 128 : Nat) : Int)]) ++ segN j n := by
  rw [segN, List.append_assoc, List.singleton_append]

set_option maxHeartbeats 2000000 in
set_option maxRecDepth 10000 in
theorem number_any (W0 w : World) (V : Value) (L : List Int) (n : Nat) (ho : Out W0 w V L) (hl : L.length ≤ 1000) (hn : n < 2 ^ 32) : Calls Tryd.prog 54 #[V, .int .u32 (n : Int)] w fun e w' => ∃ V', e = .returned V' ∧ Out W0 w' V' (L ++ sevenN n) := by
  obtain ⟨k, hk4, hk, hlt, hge⟩ := follow_is hn
  have SG := Lib.hid (seven_seg hlt hge)
  have HO := Lib.hid ho
  have hb64 := Lib.bitLen_le n 32 (by decide) hn
  have e0 : (n : Int).toNat = n := by omega
  clear hlt hge ho
  go_enter Tryd.func54, Tryd.ntmps54
  go_wp2_with fail
  refine (Tryd.bits_Len32 (n : Int) w (by omega) (by omega)).mono ?_
  rintro e w1 ⟨rfl, rfl⟩
  rw [e0]
  clear e0
  generalize Lib.bitLen n = b at *
  have hw : IntKind.i64.wrap ((b : Int) - 1) = (b : Int) - 1 := IntWalk.i64_in _ (by omega)
  go_wp2_with fail
  clear hw hb64
  go_loopw [0, 5] (fun U f wr => ∃ (j : Nat) (P : List Int), j ≤ 4 ∧ f = .int .i64 (j : Int) ∧ Out W0 wr U (L ++ P) ∧ P.length + j ≤ 4 ∧ P ++ segN j n = segN k n) (fun _ f _ => (intOf f).toNat)
  case atStart => exact ⟨k, [], hk4, rfl, by rw [List.append_nil]; exact HO.out, by simpa using hk4, by simp⟩
  case round =>
    obtain ⟨j, P, hj4, rfl, ho, hpl, hps⟩ := hrel
    have HP := Lib.hid hps
    have H1 := Lib.hid ho
    clear hps ho hk HO
    rcases j with _ | j
    · have F : Hid (L ++ sevenN n = (L ++ P) ++ [((n % 128 : Nat) : Int)]) := by
        rw [SG.out, ← HP.out, segN, List.append_nil, List.append_assoc]
        exact Lib.hid rfl
      clear SG HP
      have hx : bits .andNot .u8 ((n : Int) % 256) 128 = ((n % 128 : Nat) : Int) := by rw [andNot128_is _ (by omega) (by omega)]; omega
      have hb : (0 : Int) ≤ ((n % 128 : Nat) : Int) ∧ ((n % 128 : Nat) : Int) ≤ 255 := by omega
      generalize ((n % 128 : Nat) : Int) = x at *
      have O1 := Lib.hid (H1.out.alloc (.cells #[.int .u8 x] 5))
      have HBN : Hid ((L ++ P).length + 1 ≤ 1000000) := Lib.hid (by rw [List.length_append]; omega)
      have R1 := Lib.hid (row_const wr [x] (0, 0) (by intro y hy; simp at hy; omega))
      go_wp2_with (at_builtin; go_must (refine out_append (W0 := W0) (L := L ++ P) (zs := [x]) rfl _ _ rfl rfl O1.out rfl R1.out (fun e => by cases e) HBN.out ?_; intro V4 w4 ho4; have O4 := Lib.hid ho4; clear ho4))
      go_ret
      exact ⟨V4, rfl, by rw [F.out]; exact O4.out⟩
    · rcases j with _ | _ | _ | _ | j
      · have N : Hid ((P ++ [((n / 128 ^ (0 + 1) % 128 + 128 : Nat) : Int)]) ++ segN 0 n = segN k n) := by rw [← seg_next]; exact HP
        clear HP
        have hx : bits .or .u8 128 ((n : Int) / 128 % 256) = ((n / 128 ^ (0 + 1) % 128 + 128 : Nat) : Int) := or128_is (n / 128) (by omega)
        have hb : (0 : Int) ≤ ((n / 128 ^ (0 + 1) % 128 + 128 : Nat) : Int) ∧ ((n / 128 ^ (0 + 1) % 128 + 128 : Nat) : Int) ≤ 255 := by omega
        generalize ((n / 128 ^ (0 + 1) % 128 + 128 : Nat) : Int) = x at *
        have O1 := Lib.hid (H1.out.alloc (.cells #[.int .u8 x] 5))
        have HBN : Hid ((L ++ P).length + 1 ≤ 1000000) := Lib.hid (by rw [List.length_append]; omega)
        have R1 := Lib.hid (row_const wr [x] (0, 0) (by intro y hy; simp at hy; omega))
        go_wp2_with (at_builtin; go_must (refine out_append (W0 := W0) (L := L ++ P) (zs := [x]) rfl _ _ rfl rfl O1.out rfl R1.out (fun e => by cases e) HBN.out ?_; intro V4 w4 ho4; have O4 := Lib.hid ho4; clear ho4))
        go_roundw
        case rel => exact ⟨_, P ++ [x], by omega, by first | rfl | go_num | simp, by rw [← List.append_assoc]; exact O4.out, (by rw [List.length_append, List.length_singleton]; omega), N.out⟩
        case measure => simp [intOf]
      · have N : Hid ((P ++ [((n / 128 ^ (1 + 1) % 128 + 128 : Nat) : Int)]) ++ segN 1 n = segN k n) := by rw [← seg_next]; exact HP
        clear HP
        have hx : bits .or .u8 128 ((n : Int) / 16384 % 256) = ((n / 128 ^ (1 + 1) % 128 + 128 : Nat) : Int) := or128_is (n / 16384) (by omega)
        have hb : (0 : Int) ≤ ((n / 128 ^ (1 + 1) % 128 + 128 : Nat) : Int) ∧ ((n / 128 ^ (1 + 1) % 128 + 128 : Nat) : Int) ≤ 255 := by omega
        generalize ((n / 128 ^ (1 + 1) % 128 + 128 : Nat) : Int) = x at *
        have O1 := Lib.hid (H1.out.alloc (.cells #[.int .u8 x] 5))
        have HBN : Hid ((L ++ P).length + 1 ≤ 1000000) := Lib.hid (by rw [List.length_append]; omega)
        have R1 := Lib.hid (row_const wr [x] (0, 0) (by intro y hy; simp at hy; omega))
        go_wp2_with (at_builtin; go_must (refine out_append (W0 := W0) (L := L ++ P) (zs := [x]) rfl _ _ rfl rfl O1.out rfl R1.out (fun e => by cases e) HBN.out ?_; intro V4 w4 ho4; have O4 := Lib.hid ho4; clear ho4))
        go_roundw
        case rel => exact ⟨_, P ++ [x], by omega, by first | rfl | go_num | simp, by rw [← List.append_assoc]; exact O4.out, (by rw [List.length_append, List.length_singleton]; omega), N.out⟩
        case measure => simp [intOf]
      · have N : Hid ((P ++ [((n / 128 ^ (2 + 1) % 128 + 128 : Nat) : Int)]) ++ segN 2 n = segN k n) := by rw [← seg_next]; exact HP
        clear HP
        have hx : bits .or .u8 128 ((n : Int) / 2097152 % 256) = ((n / 128 ^ (2 + 1) % 128 + 128 : Nat) : Int) := or128_is (n / 2097152) (by omega)
        have hb : (0 : Int) ≤ ((n / 128 ^ (2 + 1) % 128 + 128 : Nat) : Int) ∧ ((n / 128 ^ (2 + 1) % 128 + 128 : Nat) : Int) ≤ 255 := by omega
        generalize ((n / 128 ^ (2 + 1) % 128 + 128 : Nat) : Int) = x at *
        have O1 := Lib.hid (H1.out.alloc (.cells #[.int .u8 x] 5))
        have HBN : Hid ((L ++ P).length + 1 ≤ 1000000) := Lib.hid (by rw [List.length_append]; omega)
        have R1 := Lib.hid (row_const wr [x] (0, 0) (by intro y hy; simp at hy; omega))
        go_wp2_with (at_builtin; go_must (refine out_append (W0 := W0) (L := L ++ P) (zs := [x]) rfl _ _ rfl rfl O1.out rfl R1.out (fun e => by cases e) HBN.out ?_; intro V4 w4 ho4; have O4 := Lib.hid ho4; clear ho4))
        go_roundw
        case rel => exact ⟨_, P ++ [x], by omega, by first | rfl | go_num | simp, by rw [← List.append_assoc]; exact O4.out, (by rw [List.length_append, List.length_singleton]; omega), N.out⟩
        case measure => simp [intOf]
      · have N : Hid ((P ++ [((n / 128 ^ (3 + 1) % 128 + 128 : Nat) : Int)]) ++ segN 3 n = segN k n) := by rw [← seg_next]; exact HP
        clear HP
        have hx : (128 + (n : Int) / 268435456) = ((n / 128 ^ (3 + 1) % 128 + 128 : Nat) : Int) := by omega
        have hb : (0 : Int) ≤ ((n / 128 ^ (3 + 1) % 128 + 128 : Nat) : Int) ∧ ((n / 128 ^ (3 + 1) % 128 + 128 : Nat) : Int) ≤ 255 := by omega
        generalize ((n / 128 ^ (3 + 1) % 128 + 128 : Nat) : Int) = x at *
        have O1 := Lib.hid (H1.out.alloc (.cells #[.int .u8 x] 5))
        have HBN : Hid ((L ++ P).length + 1 ≤ 1000000) := Lib.hid (by rw [List.length_append]; omega)
        have R1 := Lib.hid (row_const wr [x] (0, 0) (by intro y hy; simp at hy; omega))
        go_wp2_with (at_builtin; go_must (refine out_append (W0 := W0) (L := L ++ P) (zs := [x]) rfl _ _ rfl rfl O1.out rfl R1.out (fun e => by cases e) HBN.out ?_; intro V4 w4 ho4; have O4 := Lib.hid ho4; clear ho4))
        go_roundw
        case rel => exact ⟨_, P ++ [x], by omega, by first | rfl | go_num | simp, by rw [← List.append_assoc]; exact O4.out, (by rw [List.length_append, List.length_singleton]; omega), N.out⟩
        case measure => simp [intOf]
      · omega

end Go.Proofs.YtjhffnoddhlikaaDoor

namespace Go.Proofs.YtjhffnoddhlikaaDoor
open Go.RowKit
set_option linter.unusedVariables false

theorem number_int (W0 w : World) (V : Value) (L : List Int) (v : Int) (ho : Out W0 w V L) (hl : L.length ≤ 1000) (h0 : 0 ≤ v) (h1 : v ≤ 4294967295) : Calls Tryd.prog 54 #[V, .int .u32 v] w fun e w' => ∃ V', e = .returned V' ∧ Out W0 w' V' (L ++ sevenN v.toNat) := by
  obtain ⟨n, rfl⟩ := Int.eq_ofNat_of_zero_le h0
  rw [Int.toNat_natCast]
  exact number_any W0 w V L n ho hl (by omega)

set_option maxHeartbeats 2000000 in
set_option maxRecDepth 10000 in
theorem isOid_any (a : Option Addr) (n ca : Nat) (zs : List Int) (w : World) (hr : Row32 w a n zs) : Calls Tryd.prog 53 #[.slice a n ca] w fun e w' => e = .returned (.bool (decide (OidOk zs))) ∧ w' = w := by
  have R0 := Lib.hid hr
  have HL := Lib.hid hr.1
  have FB : OidOk zs ↔ (2 ≤ n ∧ n ≤ 20 ∧ zs[(0 : Nat)]?.getD 0 ≤ 2 ∧ zs[(1 : Nat)]?.getD 0 ≤ 4294967200 ∧ (zs[(1 : Nat)]?.getD 0 ≤ 39 ∨ zs[(0 : Nat)]?.getD 0 = 2)) := by unfold OidOk; rw [HL.out]
  have x0 := R0.out.num 0
  have x1 := R0.out.num 1
  clear hr
  go_enter Tryd.func53, Tryd.ntmps53
  by_cases h2 : 2 ≤ n
  rotate_left
  · have F : Hid (decide (OidOk zs) = false) := decide_eq_false (by rw [FB]; omega)
    clear FB
    go_wp2_with fail
    go_ret
    exact ⟨ret_bool F.out.symm, rfl⟩
  by_cases h20 : n ≤ 20
  rotate_left
  · have F : Hid (decide (OidOk zs) = false) := decide_eq_false (by rw [FB]; omega)
    clear FB
    go_wp2_with fail
    go_ret
    exact ⟨ret_bool F.out.symm, rfl⟩
  obtain ⟨b, off, rfl, hbl, hcell⟩ := R0.out.2.2 (by omega)
  have c0 := hcell 0 (by omega)
  have c1 := hcell 1 (by omega)
  rw [Nat.add_zero] at c0
  clear hcell
  generalize zs[(0 : Nat)]?.getD 0 = p at *
  generalize zs[(1 : Nat)]?.getD 0 = q at *
  have k0 : (0 : Int) < (n : Int) := by omega
  have k1 : (1 : Int) < (n : Int) := by omega
  by_cases hp : p ≤ 2
  rotate_left
  · have F : Hid (decide (OidOk zs) = false) := decide_eq_false (by rw [FB]; omega)
    clear FB
    go_wp2_with fail
    go_ret
    exact ⟨ret_bool F.out.symm, rfl⟩
  by_cases hp2 : p < 2
  · by_cases hq : q < 40
    · have F : Hid (decide (OidOk zs) = true) := decide_eq_true (by rw [FB]; omega)
      have t0 : decide (q < 40) = true := decide_eq_true hq
      clear FB
      go_wp2_with fail
      go_ret
      exact ⟨ret_bool F.out.symm, rfl⟩
    · have F : Hid (decide (OidOk zs) = false) := decide_eq_false (by rw [FB]; omega)
      have t0 : decide (q < 40) = false := decide_eq_false hq
      clear FB
      go_wp2_with fail
      go_ret
      exact ⟨ret_bool F.out.symm, rfl⟩
  · by_cases hq : q ≤ 4294967200
    · have F : Hid (decide (OidOk zs) = true) := decide_eq_true (by rw [FB]; omega)
      have t0 : decide (q ≤ 4294967200) = true := decide_eq_true hq
      clear FB
      go_wp2_with fail
      go_ret
      exact ⟨ret_bool F.out.symm, rfl⟩
    · have F : Hid (decide (OidOk zs) = false) := decide_eq_false (by rw [FB]; omega)
      have t0 : decide (q ≤ 4294967200) = false := decide_eq_false hq
      clear FB
      go_wp2_with fail
      go_ret
      exact ⟨ret_bool F.out.symm, rfl⟩

end Go.Proofs.YtjhffnoddhlikaaDoor

namespace Go.Proofs.YtjhffnoddhlikaaDoor
open Go.RowKit
set_option linter.unusedVariables false

set_option maxHeartbeats 4000000 in
set_option maxRecDepth 100000 in
theorem oid_any (a : Option Addr) (n ca : Nat) (zs : List Int) (w : World) (hr : Row32 w a n zs) (hnc : n ≤ ca) : Calls Tryd.prog 20 #[.slice a n ca] w (GivesNodeE (oidZ zs) w) := by
  have S0 := Lib.hid (RB.start w)
  have R0 := Lib.hid (hr.below S0.out.below)
  have HL := Lib.hid hr.1
  clear hr
  have CI := Lib.hid (isOid_any a n ca zs _ R0.out)
  have RN := Lib.hid (Row.nil (w.alloc (.cells #[.int .i64 0, .slice none 0 0, .slice none 0 0] 26)))
  go_enter Tryd.func20, Tryd.ntmps20
  go_wp2_with fail
  refine CI.out.mono ?_
  rintro e w1 ⟨rfl, rfl⟩
  clear CI
  by_cases hok : OidOk zs
  rotate_left
  · have F : Hid (oidZ zs = (.node 0 [] [], 1)) := if_neg hok
    have t0 : decide (OidOk zs) = false := decide_eq_false hok
    rw [t0]
    clear t0 hok
    go_wp2_with fail
    exact gives_ate (zs := []) (c := 0) F.out rfl rfl rfl S0.out.box S0.out.below (RN.out _) (fun h => absurd h (by simp)) (fun _ => rfl) rfl (by simp)
  have G : Hid (oidZ zs = (.node 6 (sevenN (40 * zs[(0 : Nat)]?.getD 0 + zs[(1 : Nat)]?.getD 0).toNat ++ sevens (zs.drop 2)) [], 0)) := if_pos hok
  have t0 : decide (OidOk zs) = true := decide_eq_true hok
  rw [t0]
  clear t0
  unfold OidOk at hok
  rw [HL.out] at hok
  obtain ⟨h2, h20, hp, hq, hpq⟩ := hok
  obtain ⟨b, off, rfl, hbl, hcell⟩ := R0.out.2.2 (by omega)
  have c0 := hcell 0 (by omega)
  have c1 := hcell 1 (by omega)
  rw [Nat.add_zero] at c0
  have x0 := R0.out.num 0
  have x1 := R0.out.num 1
  clear hcell RN
  generalize zs[(0 : Nat)]?.getD 0 = p at *
  generalize zs[(1 : Nat)]?.getD 0 = q at *
  have kpp : IntKind.u32.wrap (40 * p) = 40 * p := IntWalk.u32_in _ (by omega)
  have kpq : IntKind.u32.wrap (40 * p + q) = 40 * p + q := IntWalk.u32_in _ (by omega)
  have k0 : (0 : Int) < (n : Int) := by omega
  have k1 : (1 : Int) < (n : Int) := by omega
  have k00 : 0 < n := by omega
  have k11 : 1 < n := by omega
  clear hpq
  generalize hw0 : w.alloc (.cells #[.int .i64 0, .slice none 0 0, .slice none 0 0] 26) = w0 at *
  clear hw0
  have hlt0 : w.heap.size < w0.heap.size := S0.out.box.lt
  have l0 := cell_later c0
  have l1 := cell_later c1
  clear c0 c1
  go_wp2_with fail
  refine wp_region_ord Ext Ext.refl (fun _ _ _ => Ext.trans) ((0, false) :: (1, false) :: (2, false) :: (3, false) :: (4, false) :: (5, false) :: (6, false) :: (7, false) :: (8, true) :: (9, false) :: []) (by kernel_rfl) (by kernel_rfl) rfl (by kernel_rfl) (fun _ _ _ _ _ h => h) ?_
  repeat (refine ord_take _ rfl (by rfl) (fun W hW => by go_simp; first | done | rfl) ?_; simp only [Act.put, List.setIfInBounds_toArray, List.set_cons_zero, List.set_cons_succ])
  clear l0 l1
  refine ord_sole rfl (by rfl) (fun K1 hK1 => ?_)
  go_simp
  refine (number_int _ _ _ [] (40 * p + q) (out_nil _) (by simp) (by omega) (by omega)).mono ?_
  rintro e w1 ⟨V, rfl, ho⟩
  rw [List.nil_append] at ho
  have O1 := Lib.hid (ho.wider (Ext.drew (Ext.refl w0)))
  refine hK1 _ _ ho.2 ?_
  clear hK1 K1 ho
  repeat (refine ord_take _ rfl (by rfl) (fun W hW => by go_simp; first | done | rfl) ?_; simp only [Act.put, List.setIfInBounds_toArray, List.set_cons_zero, List.set_cons_succ])
  refine ord_end ?_
  have hl7 := seven_len (n := (40 * p + q).toNat) (by omega)
  have SB := Lib.hid (seven_byte (40 * p + q).toNat)
  generalize sevenN (40 * p + q).toNat = L0 at *
  by_cases hca : ca = 2
  · subst hca
    obtain rfl : n = 2 := by omega
    have F : Hid (oidZ zs = (.node 6 L0 [], 0)) := by
      rw [G.out, List.drop_of_length_le (by rw [HL.out]; exact Nat.le_refl _)]
      simp [sevens, Hid]
    have S1 := Lib.hid (S0.out.go O1.out.2)
    obtain ⟨aV, cV, rfl, hrV⟩ := O1.out.row SB.out
    have RV := Lib.hid hrV
    obtain ⟨p0, p1, p2, f0, f1, f2⟩ := S1.out.box.six
    clear hrV
    go_wp2_with fail
    refine wp_loop_rounds 1 ?_
    rw [rounds_succ]
    go_wp2_with fail
    exact gives_leafe (zs := L0) (c := cV) F.out rfl rfl rfl S1.out RV.out (fun h0 => by obtain ⟨b, off, e, hb⟩ := out_off O1.out h0; exact ⟨b, off, e, Nat.lt_of_lt_of_le hlt0 hb⟩) O1.out.nilc rfl (by omega)
  go_wp2_with fail
  go_loopw [4, 23] (fun V i wr => ∃ (k : Nat) (L : List Int), k + 2 ≤ n ∧ i = .int .i64 (k : Int) ∧ Out w0 wr V L ∧ (∀ x ∈ L, 0 ≤ x ∧ x ≤ 255) ∧ L.length ≤ 10 * (k + 1) ∧ L ++ sevens (zs.drop (k + 2)) = L0 ++ sevens (zs.drop 2)) (fun _ i _ => n - 2 - (intOf i).toNat)
  case atStart => exact ⟨0, L0, by omega, rfl, O1.out, SB.out, by omega, rfl⟩
  case round =>
    obtain ⟨k, L, hk, rfl, ho, hby, hll, hs⟩ := hrel
    have HO := Lib.hid ho
    have HB := Lib.hid hby
    have HS := Lib.hid hs
    clear ho hby hs O1 SB hl7
    by_cases hlt : k + 2 < n
    · obtain ⟨b', off', e', hbl', hcell'⟩ := (R0.out.below HO.out.2).2.2 (by omega)
      injection e' with e'
      injection e' with e1 e2
      subst e1 e2
      have ck := hcell' (k + 2) hlt
      have xk := R0.out.num (k + 2)
      rw [show off + (k + 2) = off + 2 + k by omega] at ck
      have ST := Lib.hid (sevens_drop (zs := zs) (k := k + 2) (by rw [HL.out]; exact hlt))
      clear hcell' hbl'
      generalize zs[k + 2]?.getD 0 = x at *
      have kk : (k : Int) < ((n - 2 : Nat) : Int) := by omega
      have kn : k < n - 2 := by omega
      go_wp2_with fail
      refine (number_int w0 _ _ L x HO.out (by omega) (by omega) (by omega)).mono ?_
      rintro e w2 ⟨V7, rfl, ho7⟩
      have B7 := Lib.hid (seven_byte x.toNat)
      have l7 := seven_len (n := x.toNat) (by omega)
      have O7 := Lib.hid ho7
      clear ho7 HO ck
      generalize sevenN x.toNat = L7 at *
      go_wp2_with fail
      go_roundw
      case rel => exact ⟨k + 1, L ++ L7, by omega, by go_num, O7.out, (by intro y hy; rcases List.mem_append.1 hy with hy | hy; exact HB.out y hy; exact B7.out y hy), by rw [List.length_append]; omega, by rw [List.append_assoc, show k + 1 + 2 = k + 2 + 1 by omega, ← ST.out]; exact HS.out⟩
      case measure => simp [intOf]; omega
    · obtain rfl : k + 2 = n := by omega
      have F : Hid (oidZ zs = (.node 6 L [], 0)) := by
        rw [G.out, ← HS.out, List.drop_of_length_le (by rw [HL.out]; exact Nat.le_refl _)]
        simp [sevens, Hid]
      have S1 := Lib.hid (S0.out.go HO.out.2)
      obtain ⟨aV, cV, rfl, hrV⟩ := HO.out.row HB.out
      have RV := Lib.hid hrV
      obtain ⟨p0, p1, p2, f0, f1, f2⟩ := S1.out.box.six
      clear HS hrV
      go_wp2_with fail
      exact gives_leafe (zs := L) (c := cV) F.out rfl rfl rfl S1.out RV.out (fun h0 => by obtain ⟨b, off, e, hb⟩ := out_off HO.out h0; exact ⟨b, off, e, Nat.lt_of_lt_of_le hlt0 hb⟩) HO.out.nilc rfl (by omega)

end Go.Proofs.YtjhffnoddhlikaaDoor

namespace Go.Proofs.YtjhffnoddhlikaaDoor
open Go.RowKit
set_option linter.unusedVariables false

theorem row32_const (w : World) (zs : List Int) (hz : ∀ x ∈ zs, 0 ≤ x ∧ x ≤ 4294967295) : Row32 (w.alloc (.cells (zs.map (Value.int .u32)).toArray 60)) (some ⟨w.heap.size, 0, none⟩) zs.length zs := by
  refine ⟨rfl, hz, fun _ => ⟨w.heap.size, 0, rfl, by simp, fun i hi => ?_⟩⟩
  rw [Nat.zero_add, (Blk.new w 60 (zs.map (Value.int .u32)).toArray).cell i]
  simp [hi]
theorem oid_three : oidZ [1, 2, 840] = (.node 6 [42, 134, 72] [], 0) := by
  have h : OidOk [1, 2, 840] := by decide
  unfold oidZ
  rw [if_pos h]
  have e : oidB [1, 2, 840] = [42, 134, 72] := by
    unfold oidB sevens
    simp only [List.getElem?_cons_zero, List.getElem?_cons_succ, Option.getD_some, List.drop_succ_cons, List.drop_zero, List.flatMap_cons, List.flatMap_nil, List.append_nil]
    show sevenN 42 ++ sevenN 840 = _
    unfold sevenN
    rw [sevN_end (by decide), sevN_more (by decide), sevN_end (by decide)]
    rfl
  rw [e]

set_option maxHeartbeats 1000000 in
set_option maxRecDepth 10000 in
theorem up_said : UpSaid := by
  intro W
  go_enter Tryd.func9, Tryd.ntmps9
  go_wp2_with fail
  refine (int_any 128 W (by omega) (by omega)).mono ?_
  intro e w1 h1
  obtain ⟨A1, n1, c1, K1, m1, d1, rfl, hin1, hb1⟩ := h1.has
  have B1 := Lib.hid hb1
  have UI := Lib.hid (uint_any (intT 128) _ _ hin1 (by decide +kernel))
  clear h1 hin1 hb1
  go_wp2_with fail
  refine UI.out.mono ?_
  rintro e w2 ⟨rfl, hb2⟩
  rw [uint_int 128 (by omega) (by omega)]
  have B2 := Lib.hid (Below.step B1.out hb2)
  clear UI hb2 B1
  have R3 : Hid (Row32 (w2.alloc (.cells #[.int .u32 1, .int .u32 2, .int .u32 840] 60)) (some ⟨w2.heap.size, 0, none⟩) 3 [1, 2, 840]) :=
    row32_const w2 [1, 2, 840] (by intro x hx; simp at hx; omega)
  have B3 := Lib.hid (Below.step B2.out ((Below.refl w2.heap.size w2).alloc (Nat.le_refl _) (.cells #[.int .u32 1, .int .u32 2, .int .u32 840] 60)))
  clear B2
  go_wp2_with fail
  refine (oid_any _ 3 3 [1, 2, 840] _ R3.out (by omega)).mono ?_
  intro e w4 h4
  rw [oid_three] at h4
  obtain ⟨A4, n4, c4, K4, m4, d4, rfl, hin4, hb4⟩ := h4.has
  obtain ⟨hr4, hk4⟩ := hin4.rowk
  obtain rfl : n4 = 3 := hr4.1.symm
  have P5 := Lib.hid (Box.start hin4)
  obtain ⟨p0, p1, p2⟩ := P5.out.cells
  have cv := conv_at c4 P5.out.has.rowk.1
  have B5 := Lib.hid (Below.step (Below.step B3.out hb4) P5.out.below)
  have es : (strOfNums [42, 134, 72]) = ⟨#[42, 134, 72]⟩ := by rfl
  simp only [T.tag, T.body] at *
  rw [es] at cv
  clear h4 hin4 hb4 R3 B3 hr4 hk4 es
  go_wp2_with fail
  go_ret
  exact ⟨rfl, B5.out⟩

end Go.Proofs.YtjhffnoddhlikaaDoor
