/-
  Proved: for every slice of bytes, every string and every 64-bit number the law OctetBack returns true, and each argument reads afterwards as it read before. No condition. (The frame is the guide's; the walk is by hand.)
-/
import Derived.Test.YtloilhcpkffihaaRows
import Derived.Test.YtloilhcpkffihaaAwake
import Derived.Test.YtloilhcpkffihaaOpen
import Derived.Test.YtloilhcpkffihaaBack
import Derived.Test.YtloilhcpkffihaaUnhexWalk
import Derived.Test.YtloilhcpkffihaaOrd
import Derived.WalkKit
import Derived.ProofKit
import Derived.OpenShut
import Derived.ShutString
import Derived.ChangeOld
import Derived.Below
namespace Go.Proofs.Ytloilhcpkffihaa.octetBack
open Go.ChangeShapes Go.WideShapes Go.ChangeAt Go.RowKit
open Go.ChangeMaps (open_string shut_string)
set_option linter.unusedVariables false

theorem own : ownKnob Try.prog.godebug = none := by kernel_rfl
theorem laidOut : laidOutB Try.prog = true := by kernel_rfl

/-- WHAT THE WALK IS TOLD OF A SLICE OF INTEGERS THAT CAME IN: it is nil; or it leads to a row of 'cap' cells, the numbers 'zs' (the first 'len' are its elements, the rest its spare room), each fitting its kind. -/
def IsRow (k : IntKind) (w : World) (a : Option Addr) (len cap : Nat) (zs : List Int) : Prop :=
  (a = none ∧ len = 0 ∧ cap = 0 ∧ zs = []) ∨
  ∃ x, a = some x ∧ len ≤ cap ∧ cap ≤ maxLen ∧ zs.length = cap ∧ (∀ i, i < zs.length → w.cell? (x.add i) = some (.int k (zs.getD i 0))) ∧ ∀ n ∈ zs, (Lit.int k n).wf = true

theorem conv_at {w : World} {a : Option Addr} {n : Nat} {zs : List Int} (cap : Nat) (h : Row w a n zs) : (convert 22 9 (.slice a n cap)).run Try.prog w = .ok (.string (strOfNums zs)) w :=
  h.conv 22 9 5 Try.underlying22 Try.underlying5 Try.underlying9

/-- Unhex of a Hex. -/
theorem unhex_back (zs : List Int) (w : World) (h : ∀ x ∈ zs, 0 ≤ x ∧ x ≤ 255) (hn : zs.length ≤ 1000) : Calls Try.prog 9 #[.string (strOfNums (hexZ zs))] w (GivesM w zs.length zs) :=
  (unhex_any (strOfNums (hexZ zs)) w (by rw [strOfNums_size, hexZ_length]; omega)).mono fun _ _ hg => by
    rw [unhexR_hex h] at hg
    exact hg

/-- Unhex of a text that is one. -/
theorem unhex_some (s : ByteArray) (zs : List Int) (w : World) (hs : s.size ≤ 1000) (h : unhexZ (numsOf s) = some zs) : Calls Try.prog 9 #[.string s] w (GivesM w zs.length zs) :=
  (unhex_any s w (by omega)).mono fun _ _ hg => by
    rw [unhexR, h] at hg
    exact hg

theorem unhex_none (s : ByteArray) (w : World) (hs : s.size ≤ 1000) (h : unhexZ (numsOf s) = none) : Calls Try.prog 9 #[.string s] w (GivesNone w) :=
  (unhex_any s w (by omega)).mono fun _ _ hg => by
    rw [unhexR, h] at hg
    exact hg

theorem unhex_len {s : ByteArray} {zs : List Int} (h : unhexZ (numsOf s) = some zs) : 2 * zs.length = s.size := by
  rw [← hexZ_length, hex_unhex _ _ zs (Nat.le_refl _) h, numsOf_length]

/-- Hex of what Unhex gave. -/
theorem hex_back (s : ByteArray) (zs : List Int) (a : Option Addr) (c : Nat) (w : World) (hs : s.size ≤ 1000) (h : unhexZ (numsOf s) = some zs) (hr : Row w a zs.length zs) :
    Calls Try.prog 11 #[.slice a zs.length c] w fun e w' => e = .returned (.string s) ∧ Below w.heap.size w w' :=
  (hex_any a zs.length c zs w hr (by have := unhex_len h; omega)).mono fun _ _ ⟨he, hb⟩ => ⟨by rw [he, str_unhex h], hb⟩

/-- Num of what Least gave. -/
theorem num_least (n : Int) (m c : Nat) (a : Option Addr) (w : World) (h1 : n ≤ 18446744073709551615) (hl : IsLeast n m) (hr : Row w a m (beZ m n)) :
    Calls Try.prog 13 #[.slice a m c] w fun e w' => e = .returned (.tuple #[.int .u64 n, .bool true]) ∧ w' = w :=
  (num_any a m c _ w hr (by have := hl.2.1; omega)).mono fun _ _ ⟨he, hw⟩ => ⟨by rw [he, num_back h1 hl.2.2.1], hw⟩

/-! ### STEP 1: THE WALK: the Go text returns true, AND WRITES NOTHING THAT WAS THERE: 'Below w.heap.size w w'' (Derived/Below.lean: '.refl', '.alloc', '.drew', '.setCell' at a new block, '.trans'). Open each 'IsRow' by 'rcases' AHEAD of 'go_enter'; part every test ahead of the walk. -/
set_option maxHeartbeats 2000000 in
theorem walk (a0 : Option Addr) (len0 cap0 : Nat) (z0 : List Int) (a1 : ByteArray) (a2 : Int) (w : World) (w0 : IsRow .u8 w a0 len0 cap0 z0) (w1 : a1.size ≤ maxLen) (w2 : (Lit.int .u64 a2).wf = true) :
    Calls Try.prog 6 #[.slice a0 len0 cap0, .string a1, .int .u64 a2] w fun e w' => e = .returned (.bool true) ∧ Below w.heap.size w w' := by
  obtain ⟨r0, m0⟩ := row_of w0
  obtain ⟨u2, v2⟩ := bounds_u64 w2
  clear w0 w2
  have R0 := Lib.hid r0
  clear r0
  unfold maxLen at m0 w1
  by_cases h0 : 1000 < len0
  · have t0 : decide (1000 < (len0 : Int)) = true := by simp; omega
    go_enter Try.func6, Try.ntmps6
    go_wp2_with fail
    refine (awake_any w).mono ?_
    rintro e w9 ⟨rfl, hb⟩
    go_wp2
    go_ret
    exact ⟨rfl, hb⟩
  · by_cases h1 : 1000 < a1.size
    · go_enter Try.func6, Try.ntmps6
      go_wp2_with fail
      refine (awake_any w).mono ?_
      rintro e w9 ⟨rfl, hb⟩
      go_wp2
      go_ret
      exact ⟨rfl, hb⟩
    · have hlen := R0.out.1
      have hbyte := Lib.hid R0.out.2.1
      generalize List.take len0 z0 = zs at R0 hlen hbyte
      subst hlen
      cases hU : unhexZ (numsOf a1) with
      | none =>
        have U := Lib.hid hU
        clear hU
        go_enter Try.func6, Try.ntmps6
        go_wp2_with fail
        refine (awake_any w).mono ?_
        rintro e w2 ⟨rfl, hb2⟩
        go_wp2_with fail
        refine (hex_any _ _ _ _ _ (R0.out.below hb2) (by omega)).mono ?_
        rintro e w3 ⟨rfl, hb3⟩
        go_wp2_with fail
        refine (unhex_back zs _ hbyte.out (by omega)).mono ?_
        rintro e w4 ⟨ac, cc, rfl, hc, hb4⟩
        have HC := Lib.hid hc
        clear hc
        go_wp2_with fail
        refine (unhex_none a1 _ (by omega) U.out).mono ?_
        rintro e w5 ⟨ad, cd, rfl, _, hb5⟩
        go_wp2_with fail
        refine (least_any a2 _ u2 v2).mono ?_
        rintro e w6 ⟨m, al, cl, hL, rfl, hl, hb6⟩
        have HL := Lib.hid hl
        clear hl
        go_wp2_with fail
        refine (num_least a2 m cl al _ v2 hL HL.out).mono ?_
        rintro e w7 ⟨rfl, rfl⟩
        have kc := conv_at cc ((HC.out.below hb5).below hb6)
        have kb := conv_at cap0 (((((R0.out.below hb2).below hb3).below hb4).below hb5).below hb6)
        have hm1 := hL.1
        have hm2 := hL.2.1
        by_cases hm : m = 1
        · subst hm
          go_wp2
          go_ret
          exact ⟨rfl, Ext.trans (Ext.trans (Ext.trans (Ext.trans hb2 hb3) hb4) hb5) hb6⟩
        · have hne := least_head u2 hL hm
          have tm : ((m : Int) == 1) = false := by simp; omega
          obtain ⟨b0, o0, rfl, _, hcell⟩ := HL.out.2.2 (by omega)
          have c0 := hcell 0 (by omega)
          clear hcell
          rw [Nat.add_zero] at c0
          generalize (beZ m a2)[0]?.getD 0 = x at c0 hne
          clear hm
          have hp : (0 : Int) < (m : Int) := by omega
          go_wp2
          go_ret
          exact ⟨rfl, Ext.trans (Ext.trans (Ext.trans (Ext.trans hb2 hb3) hb4) hb5) hb6⟩
      | some ys =>
        have U := Lib.hid hU
        clear hU
        go_enter Try.func6, Try.ntmps6
        go_wp2_with fail
        refine (awake_any w).mono ?_
        rintro e w2 ⟨rfl, hb2⟩
        go_wp2_with fail
        refine (hex_any _ _ _ _ _ (R0.out.below hb2) (by omega)).mono ?_
        rintro e w3 ⟨rfl, hb3⟩
        go_wp2_with fail
        refine (unhex_back zs _ hbyte.out (by omega)).mono ?_
        rintro e w4 ⟨ac, cc, rfl, hc, hb4⟩
        have HC := Lib.hid hc
        clear hc
        go_wp2_with fail
        refine (unhex_some a1 ys _ (by omega) U.out).mono ?_
        rintro e w5 ⟨ad, cd, rfl, hd, hb5⟩
        have HD := Lib.hid hd
        clear hd
        go_wp2_with fail
        refine (least_any a2 _ u2 v2).mono ?_
        rintro e w6 ⟨m, al, cl, hL, rfl, hl, hb6⟩
        have HL := Lib.hid hl
        clear hl
        go_wp2_with fail
        refine (num_least a2 m cl al _ v2 hL HL.out).mono ?_
        rintro e w7 ⟨rfl, rfl⟩
        go_wp2_with fail
        refine (hex_back a1 ys ad cd _ (by omega) U.out (HD.out.below hb6)).mono ?_
        rintro e w8 ⟨rfl, hb8⟩
        have kc := conv_at cc (((HC.out.below hb5).below hb6).below hb8)
        have kb := conv_at cap0 ((((((R0.out.below hb2).below hb3).below hb4).below hb5).below hb6).below hb8)
        have hm1 := hL.1
        have hm2 := hL.2.1
        by_cases hm : m = 1
        · subst hm
          go_wp2
          go_ret
          exact ⟨rfl, Ext.trans (Ext.trans (Ext.trans (Ext.trans (Ext.trans hb2 hb3) hb4) hb5) hb6) hb8⟩
        · have hne := least_head u2 hL hm
          have tm : ((m : Int) == 1) = false := by simp; omega
          obtain ⟨b0, o0, rfl, _, hcell⟩ := (HL.out.below hb8).2.2 (by omega)
          have c0 := hcell 0 (by omega)
          clear hcell
          rw [Nat.add_zero] at c0
          generalize (beZ m a2)[0]?.getD 0 = x at c0 hne
          clear hm
          have hp : (0 : Int) < (m : Int) := by omega
          go_wp2
          go_ret
          exact ⟨rfl, Ext.trans (Ext.trans (Ext.trans (Ext.trans (Ext.trans hb2 hb3) hb4) hb5) hb6) hb8⟩

/-! ### THE ROW's STEP: WRITTEN OUT: LEAVE IT -/
set_option maxRecDepth 100000 in
theorem lifted (os : Os) (started : os.Started) (H : Type) (enc : TypeId × Value → H) :
    ReturnsInHanded {} Try.checked os 6 .any (Rows.octetBackSpec.pre6 enc Try.prog Try.f6 Rows.octetBackRow.domain false) (Rows.octetBackSpec.post enc Try.prog Try.f6 false true false false) := by
  refine returnsInHanded_of_change (C := Try.checked) own started (by kernel_rfl) Try.func6
    (ChangeSpec.witness6 (enc := enc) (C := Try.checked) false ⟨#[], #[.slice none 0 0, .string ByteArray.empty, .int .u64 0], []⟩ 8 (by kernel_rfl) (by kernel_rfl) (by kernel_rfl) (by kernel_rfl)) ?_
  intro W base args ds gs before hval0 hW hcnd _
  have hval : ∀ (j : Nat) t v, Try.f6.params[j]? = some t → args[j]? = some v → Value.okWide Try.prog W .any base t v := hval0
  have hW' := hW
  obtain ⟨p, q, hA0, hV, rfl, hfz, hnd⟩ := hW
  have hA : DataW.TrodAll enc Try.prog W 0 (fun _ => true) true Try.f6.params.toList args.toList ds p := hA0
  rw [Try.params6] at hA hval
  obtain ⟨v0, vs0, d0, ds0, p0, q0, hargs, rfl, rfl, h0, r0⟩ := trodAll_cons hA
  obtain ⟨v1, vs1, d1, ds1, p1, q1, rfl, rfl, rfl, h1, r1⟩ := trodAll_cons r0
  obtain ⟨v2, vs2, d2, ds2, p2, q2, rfl, rfl, rfl, h2, r2⟩ := trodAll_cons r1
  obtain ⟨rfl, rfl, rfl⟩ := trodAll_nil r2
  obtain rfl : args = #[v0, v1, v2] := by cases args; simp_all
  obtain ⟨rfl, rfl⟩ := trodVars_none hV
  obtain ⟨a0, len0, cap0, rfl⟩ := okWide_slice Try.underlying22 (hval 0 22 v0 rfl rfl)
  have k0 := h0
  have lt0 : ∀ x ∈ p0, x.block < W.heap.size := by obtain ⟨m, hm⟩ := k0; exact DataW.trod_lt m _ _ _ hm
  obtain ⟨z0, w0⟩ : ∃ zs, IsRow .u8 W a0 len0 cap0 zs := by
    obtain ⟨fuel, hf⟩ := h0
    rcases open_ints Try.underlying22 Try.underlying5 (by kernel_rfl) hf with ⟨hcs, _⟩ | ⟨x, l, c, zs, hcs, _, hl, hm, hz, _, hcell, hwz⟩
    · simp [Value.cells] at hcs
      obtain ⟨rfl, rfl, rfl⟩ := hcs
      exact ⟨[], .inl ⟨rfl, rfl, rfl, rfl⟩⟩
    · simp [Value.cells] at hcs
      obtain ⟨rfl, rfl, rfl⟩ := hcs
      exact ⟨zs, .inr ⟨_, rfl, hl, hm, by simpa using hz, hcell, hwz⟩⟩
  obtain ⟨a1, rfl, rfl, rfl, w1⟩ := open_string Try.underlying9 (hval 1 9 v1 rfl rfl) h1
  obtain ⟨a2, rfl, rfl, rfl, w2⟩ := open_int Try.underlying28 (hval 2 28 v2 rfl rfl) h2
  clear hA0 hval0
  refine (walk a0 len0 cap0 z0 a1 a2 W w0 w1 w2).mono fun e W' ⟨he, bel⟩ => ?_
  subst he
  exact ⟨_, rfl, _, _, _, [], _, [], hW', trodAll_mk1 (shut_bool Try.underlying4 _), (trodAll_cons_mk (Below.trod laidOut (by kernel_rfl) (of_decide_eq_true (by kernel_rfl)) k0 bel lt0) (trodAll_cons_mk (shut_string Try.underlying9 w1) (trodAll_cons_mk (shut_int Try.underlying28 w2) trodAll_mk0))), rfl, bel.frame _, fun h => by cases h⟩

theorem over : Rows.octetBackRow.holds Try.pinned (OpenSpec.ofChange Rows.octetBackSpec) :=
  OpenClaim.holds_of_wide 6 Try.f6 rfl rfl rfl rfl rfl rfl rfl ⟨rfl, rfl, rfl, rfl, rfl⟩ rfl rfl rfl rfl rfl (by kernel_rfl) Try.func6 (by kernel_rfl)
    (of_decide_eq_true (by kernel_rfl)) (by unfold Func.isWrapper; first | (rw [if_pos (by decide +kernel)]; kernel_rfl) | (rw [if_neg (by decide +kernel)]; exact ⟨rfl, rfl⟩))
    (fun os started H enc _ => lifted os started H enc)

/-- ████ THE STATEMENT ████ -/
theorem proved : Rows.OctetBackSaid := over
#print axioms proved
end Go.Proofs.Ytloilhcpkffihaa.octetBack
