/-
  Merged texts (stage 5): Pk1, Pk2, Pk3.
-/
import Derived.Test.YtjhffnoddhlikaaDoorGrpC
import Derived.Test.YtjhffnoddhlikaaDoorGrpE
namespace Go.Proofs.YtjhffnoddhlikaaDoor
open Go.RowKit
set_option linter.unusedVariables false

/-- A part of a row of bytes: its end, without noughts ahead. -/
def GivesPart (zs : List Int) (w : World) (e : Ending) (w' : World) : Prop :=
  ∃ a c, e = .returned (.slice a zs.length c) ∧ Row w a zs.length zs ∧ (a = none → c = 0) ∧ zs.length ≤ c ∧ w' = w
theorem GivesPart.of {zs : List Int} {a : Option Addr} {m c : Nat} {w : World} (hr : Row w a m zs) (hnil : a = none → c = 0) (hc : m ≤ c) : GivesPart zs w (.returned (.slice a m c)) w := by
  obtain rfl := hr.1
  exact ⟨a, c, rfl, hr, hnil, hc, rfl⟩
theorem bare_nil_iff {zs : List Int} {k : Nat} (h : bareZ (zs.drop k) = bareZ zs) (hk : zs.length ≤ k) : bareZ zs = [] := by
  rw [← h, List.drop_of_length_le hk]
  rfl
theorem rest_nil {a : Option Addr} {k c : Nat} (hnil : a = none → c = 0) (h : (if c = k then a else a.map (·.add k)) = none) : c - k = 0 := by
  split at h
  · omega
  · cases a with
    | none => have := hnil rfl; omega
    | some x => cases h

def lenV : Value → Nat
  | .slice _ m _ => m
  | _ => 0
set_option maxHeartbeats 1000000 in
theorem trimByte_any (a : Option Addr) (n ca : Nat) (zs : List Int) (w : World) (hr : Row w a n zs) (hnc : n ≤ ca) (hn : n ≤ 1000000) (hnil : a = none → ca = 0) : Calls Tryd.prog 84 #[.slice a n ca, .int .u8 0] w (GivesPart (bareZ zs) w) := by
  have R0 := Lib.hid hr
  have NI := Lib.hid hnil
  have HL := Lib.hid hr.1
  clear hr hnil
  go_enter Tryd.func84, Tryd.ntmps84
  go_wp2_with fail
  go_loopw [0] (fun s wr => ∃ (k m : Nat) (b : Option Addr) (c : Nat), k + m = n ∧ s = .slice b m c ∧ wr = w ∧ Row w b m (zs.drop k) ∧ m ≤ c ∧ (b = none → c = 0) ∧ bareZ (zs.drop k) = bareZ zs) (fun s _ => lenV s)
  case atStart => exact ⟨0, n, a, ca, by omega, rfl, rfl, by simpa using R0.out, hnc, NI.out, by simp⟩
  case round =>
    obtain ⟨k, m, b, c, hk, rfl, rfl, hrb, hcb, hnb, hb⟩ := hrel
    have HB := Lib.hid hb
    have RB := Lib.hid hrb
    have NB := Lib.hid hnb
    clear hb hrb hnb
    have hkm : k + m ≤ n ∧ n ≤ k + m := by omega
    have HK := Lib.hid hk
    clear hk
    by_cases hlt : 0 < m
    · obtain ⟨bb, off, rfl, hbl, hc⟩ := RB.out.2.2 hlt
      have c0 := hc 0 hlt
      rw [Nat.add_zero] at c0
      have z0 := RB.out.byte 0
      have e0 : (zs.drop k)[0]?.getD 0 = zs[k]?.getD 0 := by rw [List.getElem?_drop, Nat.add_zero]
      rw [e0] at c0 z0
      have BD := Lib.hid (bare_drop (zs := zs) (k := k) (by rw [HL.out]; omega))
      have RW := Lib.hid (RB.out.rest 1 c (by omega) hcb)
      clear hc e0
      by_cases hz : zs[k]?.getD 0 = 0
      · have N : Hid (bareZ (zs.drop (k + 1)) = bareZ zs) := by
          rw [← HB.out, BD.out, if_pos hz]
          exact Lib.hid rfl
        have RX : Hid (Row wr (if c = 1 then some ⟨bb, off, none⟩ else some ⟨bb, off + 1, none⟩) (m - 1) (zs.drop (k + 1))) := by
          have h := RW.out
          rw [List.drop_drop, Option.map_some, Addr.add_lit] at h
          exact Lib.hid h
        rw [hz] at c0
        clear BD HB hz z0 RW
        by_cases hc1 : c = 1
        · subst hc1
          obtain rfl : m = 1 := by omega
          have R1 : Hid (Row wr (some ⟨bb, off, none⟩) 0 (zs.drop (k + 1))) := Lib.hid (by simpa using RX.out)
          clear RX
          go_wp2_with fail
          go_roundw
          case rel => exact ⟨k + 1, 0, _, _, by omega, by first | rfl | simp, trivial, R1.out, by omega, (fun h => by cases h), N.out⟩
          case measure => simp [lenV]
        · have R1 : Hid (Row wr (some ⟨bb, off + 1, none⟩) (m - 1) (zs.drop (k + 1))) := Lib.hid (by have := RX.out; rwa [if_neg hc1] at this)
          clear RX
          go_wp2_with fail
          go_roundw
          case rel => exact ⟨k + 1, m - 1, _, _, by omega, by first | rfl | simp, trivial, R1.out, by omega, (fun h => by cases h), N.out⟩
          case measure => simp [lenV]; omega
      · have F : Hid (bareZ zs = zs.drop k) := by
          rw [← HB.out, BD.out, if_neg hz]
          exact Lib.hid rfl
        have t0 : (zs[k]?.getD 0 == 0) = false := by simpa using hz
        have t1 : ((m : Int) == 0) = false := by simp; omega
        generalize zs[k]?.getD 0 = x at c0 z0 t0
        clear BD HB hz RW
        go_wp2_with fail
        go_ret
        rw [F.out]
        exact GivesPart.of RB.out NB.out hcb
    · obtain rfl : m = 0 := by omega
      have F : Hid (bareZ zs = []) := bare_nil_iff HB.out (by rw [HL.out]; omega)
      clear HB
      go_wp2_with fail
      go_ret
      rw [F.out]
      exact GivesPart.of (Row.nil _ _) (fun _ => rfl) (Nat.le_refl _)

set_option maxHeartbeats 1000000 in
set_option maxRecDepth 100000 in
theorem trim_any (a : Option Addr) (n ca : Nat) (zs : List Int) (w : World) (hr : Row w a n zs) (hnc : n ≤ ca) (hn : n ≤ 1000000) (hnil : a = none → ca = 0) : Calls Tryd.prog 71 #[.slice a n ca, .string ⟨#[0]⟩] w (GivesPart (bareZ zs) w) := by
  have R0 := Lib.hid hr
  have CT := Lib.hid (trimByte_any a n ca zs w hr hnc hn hnil)
  have HL := Lib.hid hr.1
  clear hr hnil
  go_enter Tryd.func71, Tryd.ntmps71
  by_cases h0 : n = 0
  · subst h0
    have F : Hid (bareZ zs = []) := by rw [List.eq_nil_of_length_eq_zero HL.out]; exact Lib.hid rfl
    clear CT HL
    go_wp2_with fail
    go_ret
    rw [F.out]
    exact GivesPart.of (Row.nil _ _) (fun _ => rfl) (Nat.le_refl _)
  have t0 : ((n : Int) == 0) = false := by simp; omega
  go_wp2_with fail
  refine CT.out.mono ?_
  rintro e w2 ⟨b, c, rfl, hr2, hn2, hc2, rfl⟩
  have G2 := Lib.hid (GivesPart.of hr2 hn2 hc2)
  clear hr2 hn2 hc2 CT
  go_wp2_with fail
  go_ret
  exact G2.out

theorem bareW_any (a : Option Addr) (n ca : Nat) (zs : List Int) (w : World) (hr : Row w a n zs) (hnc : n ≤ ca) (hn : n ≤ 1000000) (hnil : a = none → ca = 0) : Calls Tryd.prog 44 #[.slice a n ca] w (GivesPart (bareZ zs) w) := by
  have CT := Lib.hid (trim_any a n ca zs w hr hnc hn hnil)
  clear hr hnil
  go_enter Tryd.func44, Tryd.ntmps44
  go_wp2_with fail
  refine CT.out.mono ?_
  rintro e w2 ⟨b, c, rfl, hr2, hn2, hc2, rfl⟩
  have G2 := Lib.hid (GivesPart.of hr2 hn2 hc2)
  clear hr2 hn2 hc2 CT
  go_wp2_with fail
  go_ret
  exact G2.out

theorem equal_bytes {xs ys : List Int} (hx : ∀ x ∈ xs, 0 ≤ x ∧ x ≤ 255) (hy : ∀ x ∈ ys, 0 ≤ x ∧ x ≤ 255) : ((strOfNums xs).toList == (strOfNums ys).toList) = decide (xs = ys) := by
  by_cases h : xs = ys
  · rw [h, decide_eq_true rfl]
    exact beq_self_eq_true _
  · rw [decide_eq_false h]
    have : (strOfNums xs).toList ≠ (strOfNums ys).toList := fun e => h (by rw [← nums_str xs hx, ← nums_str ys hy, bytes_ext e])
    exact beq_false_of_ne this

set_option maxHeartbeats 1000000 in
theorem equal_any (a1 a2 : Option Addr) (n1 n2 c1 c2 : Nat) (xs ys : List Int) (w : World) (hx : Row w a1 n1 xs) (hy : Row w a2 n2 ys) : Calls Tryd.prog 72 #[.slice a1 n1 c1, .slice a2 n2 c2] w fun e w' => e = .returned (.bool (decide (xs = ys))) ∧ w' = w := by
  have cv1 := conv_at c1 hx
  have cv2 := conv_at c2 hy
  have E := Lib.hid (equal_bytes hx.2.1 hy.2.1)
  clear hx hy
  go_enter Tryd.func72, Tryd.ntmps72
  go_wp2_with fail
  go_ret
  exact ⟨ret_bool E.out, rfl⟩

end Go.Proofs.YtjhffnoddhlikaaDoor

namespace Go.Proofs.YtjhffnoddhlikaaDoor
open Go.RowKit
set_option linter.unusedVariables false

/-- A row of bytes, wherever it lies. -/
def GivesRow (zs : List Int) (w : World) (e : Ending) (w' : World) : Prop :=
  ∃ a c, e = .returned (.slice a zs.length c) ∧ Row w' a zs.length zs ∧ (a = none → c = 0) ∧ zs.length ≤ c ∧ Below w.heap.size w w'
theorem GivesRow.of {zs : List Int} {a : Option Addr} {m c : Nat} {w w' : World} (hr : Row w' a m zs) (hnil : a = none → c = 0) (hc : m ≤ c) (hb : Below w.heap.size w w') : GivesRow zs w (.returned (.slice a m c)) w' := by
  obtain rfl := hr.1
  exact ⟨a, c, rfl, hr, hnil, hc, hb⟩
theorem Out.gives {w w' : World} {V : Value} {zs : List Int} (h : Out w w' V zs) (hb : ∀ x ∈ zs, 0 ≤ x ∧ x ≤ 255) : GivesRow zs w (.returned V) w' := by
  have h2 := h.2
  obtain ⟨a, c, rfl, hr⟩ := h.row hb
  exact ⟨a, c, rfl, hr, h.nilc, own_cap h.1, h2⟩

set_option maxHeartbeats 1000000 in
theorem clone_any (a : Option Addr) (n ca : Nat) (zs : List Int) (w : World) (hr : Row w a n zs) (hnc : n ≤ ca) (hn : n ≤ 1000000) (hnil : a = none → ca = 0) : Calls Tryd.prog 50 #[.slice a n ca] w (GivesRow zs w) := by
  have q22 : ∀ (w : World) (a : Option Addr) (n c n' c' : Nat), (binOp .eql 23 (.slice a n c) (.slice none n' c')).run Tryd.prog w = .ok (.bool a.isNone) w := fun w a n c n' c' => Lib.run_eql_slice_nil w _ _ a n c n' c' Tryd.underlying23
  have HB := Lib.hid hr.2.1
  have RX := Lib.hid (hr.below ((Below.refl w.heap.size w).alloc (Nat.le_refl _) (.cells #[] 5)))
  have hl := hr.1
  have R0 := Lib.hid hr
  clear hr
  go_enter Tryd.func50, Tryd.ntmps50
  cases a with
  | none =>
    obtain rfl := hnil rfl
    obtain rfl : n = 0 := by omega
    clear hl hnil
    go_wp2_with fail
    go_ret
    exact GivesRow.of R0.out (fun _ => rfl) (Nat.le_refl _) (Below.refl _ _)
  | some b =>
    clear hl hnil
    go_wp2_with (at_builtin; go_must (refine out_append (W0 := w) (L := []) (zs := zs) rfl _ _ rfl rfl (out_zero w) rfl RX.out (fun e => by cases e) (by simp; omega) ?_; intro V1 w1 ho1; rw [List.nil_append] at ho1; have HO := Lib.hid ho1; clear ho1))
    go_ret
    exact HO.out.gives HB.out

/-- Bytes are appended to nothing. -/
theorem out_nil (w : World) : Out w w (.slice none 0 0) [] := ⟨⟨rfl, .inl ⟨rfl, rfl⟩⟩, Below.refl _ _⟩

set_option maxHeartbeats 1000000 in
theorem big_any (a : Option Addr) (n ca : Nat) (zs : List Int) (w : World) (hr : Row w a n zs) (hnc : n ≤ ca) (hn : n ≤ 100000) (hnil : a = none → ca = 0) : Calls Tryd.prog 14 #[.slice a n ca] w (GivesNode (bigT zs) w) := by
  have hby := hr.2.1
  have hbb : ∀ x ∈ bareZ zs, 0 ≤ x ∧ x ≤ 255 := fun x hx => hby x (bare_mem hx)
  have hle := bare_le zs
  have hl := hr.1
  have S0 := Lib.hid (RB.start w)
  have CI := Lib.hid (bareW_any a n ca zs _ (hr.below S0.out.below) hnc (by omega) hnil)
  have GB := Lib.hid (big_byte hby)
  have GL := Lib.hid (big_le zs)
  have HBB := Lib.hid hbb
  clear hr hnil hby hbb
  go_enter Tryd.func14, Tryd.ntmps14
  go_wp2_with fail
  refine CI.out.mono ?_
  rintro e w2 ⟨b2, c2, rfl, hr2, hn2, hc2, rfl⟩
  have W2 : Hid (w.heap.size < (w.alloc (.cells #[.int .i64 0, .slice none 0 0, .slice none 0 0] 26)).heap.size) := by simp [Hid]
  generalize w.alloc (.cells #[.int .i64 0, .slice none 0 0, .slice none 0 0] 26) = w2 at *
  have R2 := Lib.hid hr2
  have N2 := Lib.hid hn2
  clear hr2 hn2 CI
  by_cases h0 : bareZ zs = []
  · have F : Hid (bigZ zs = [0] ++ bareZ zs) := if_pos (.inl h0)
    have L0 : Hid ((bareZ zs).length = 0) := by rw [h0]; exact Lib.hid rfl
    have t0 : (((bareZ zs).length : Int) == 0) = true := by rw [L0.out]; rfl
    have O0 := Lib.hid (out_nil (w2.alloc (.cells #[.int .u8 0] 5)) |>.wider ((Below.refl w2.heap.size w2).alloc (Nat.le_refl _) _))
    have R3 := Lib.hid (row_const w2 [0] (0, 0) (by intro x hx; simp at hx; omega))
    clear h0
    generalize bareZ zs = bz at *
    go_wp2_with (at_builtin; first
      | (refine out_append (W0 := w2) (L := []) (zs := [0]) rfl _ _ rfl rfl O0.out rfl R3.out (fun e => by cases e) (by simp) ?_; intro V3 w3 ho3; rw [List.nil_append] at ho3; have O3 := Lib.hid ho3; have R5 := Lib.hid (R2.out.below ho3.2); clear ho3)
      | (go_must (refine out_append (L := [0]) (zs := bz) rfl _ _ rfl rfl O3.out rfl R5.out N2.out (by simp; omega) ?_; intro V4 w4 ho4; have O4 := Lib.hid ho4; have S4 := Lib.hid (S0.out.go ho4.2); obtain ⟨p0, p1, p2, f0, f1, f2⟩ := S4.out.box.six; rw [← F.out] at ho4 O4; obtain ⟨b4, c4, rfl, hr4⟩ := ho4.row GB.out; clear ho4)))
    exact gives_leaf rfl rfl S4.out O4.out W2.out rfl GB.out (by have := GL.out; omega)
  · have L0 : Hid (0 < (bareZ zs).length) := List.length_pos_iff.2 h0
    have t0 : (((bareZ zs).length : Int) == 0) = false := by simp; exact h0
    obtain ⟨b, off, rfl, hbl, hc⟩ := R2.out.2.2 L0.out
    have c0 := hc 0 L0.out
    rw [Nat.add_zero] at c0
    have z0 := R2.out.byte 0
    clear hc
    by_cases h8 : 128 ≤ (bareZ zs)[(0 : Nat)]?.getD 0
    · have F : Hid (bigZ zs = [0] ++ bareZ zs) := if_pos (.inr h8)
      have O0 := Lib.hid (out_nil (w2.alloc (.cells #[.int .u8 0] 5)) |>.wider ((Below.refl w2.heap.size w2).alloc (Nat.le_refl _) _))
      have R3 := Lib.hid (row_const w2 [0] (0, 0) (by intro x hx; simp at hx; omega))
      clear h0
      generalize (bareZ zs)[(0 : Nat)]?.getD 0 = x0 at c0 z0 h8
      generalize bareZ zs = bz at *
      go_wp2_with (at_builtin; first
        | (refine out_append (W0 := w2) (L := []) (zs := [0]) rfl _ _ rfl rfl O0.out rfl R3.out (fun e => by cases e) (by simp) ?_; intro V3 w3 ho3; rw [List.nil_append] at ho3; have O3 := Lib.hid ho3; have R5 := Lib.hid (R2.out.below ho3.2); clear ho3)
        | (go_must (refine out_append (L := [0]) (zs := bz) rfl _ _ rfl rfl O3.out rfl R5.out N2.out (by simp; omega) ?_; intro V4 w4 ho4; have O4 := Lib.hid ho4; have S4 := Lib.hid (S0.out.go ho4.2); obtain ⟨p0, p1, p2, f0, f1, f2⟩ := S4.out.box.six; rw [← F.out] at ho4 O4; obtain ⟨b4, c4, rfl, hr4⟩ := ho4.row GB.out; clear ho4)))
      exact gives_leaf rfl rfl S4.out O4.out W2.out rfl GB.out (by have := GL.out; omega)
    · have F : Hid (bigZ zs = bareZ zs) := if_neg (by rintro (h | h); exact h0 h; exact h8 h)
      have O0 := Lib.hid (out_nil w2)
      generalize (bareZ zs)[(0 : Nat)]?.getD 0 = x0 at c0 z0 h8
      clear h0
      generalize bareZ zs = bz at *
      go_wp2_with (at_builtin; go_must (refine out_append (W0 := w2) (L := []) (zs := bz) rfl _ _ rfl rfl O0.out rfl R2.out N2.out (by simp; omega) ?_; intro V4 w4 ho4; rw [List.nil_append] at ho4; have O4 := Lib.hid ho4; have S4 := Lib.hid (S0.out.go ho4.2); obtain ⟨p0, p1, p2, f0, f1, f2⟩ := S4.out.box.six; rw [← F.out] at ho4 O4; obtain ⟨b4, c4, rfl, hr4⟩ := ho4.row GB.out; clear ho4))
      exact gives_leaf rfl rfl S4.out O4.out W2.out rfl GB.out (by have := GL.out; omega)

set_option maxHeartbeats 1000000 in
theorem int_any (n : Int) (w : World) (h0 : 0 ≤ n) (h1 : n ≤ 18446744073709551615) : Calls Tryd.prog 12 #[.int .u64 n] w (GivesNode (intT n) w) := by
  have S0 := Lib.hid (RB.start w)
  have hml := leastM_le n
  go_enter Tryd.func12, Tryd.ntmps12
  go_wp2_with fail
  refine (least_any n _ h0 h1).mono ?_
  intro e w2 h2
  obtain ⟨b, off, c, rfl, hr, hb, hc⟩ := h2.is h0 h1
  have S2 := Lib.hid (S0.out.go hb)
  have CI := Lib.hid (big_any (some ⟨b, off, none⟩) (leastM n) c (leastZ n) w2 hr hc (by omega) (fun e => by cases e))
  clear h2 hr hb S0
  generalize leastM n = m at CI hc hml
  go_wp2_with fail
  refine CI.out.mono ?_
  rintro e w3 ⟨A, n3, c3, K, m3, d3, rfl, hin, hb3⟩
  have S3 := Lib.hid (S2.out.go hb3)
  have IN := Lib.hid hin
  have W2 : Hid (w.heap.size < w2.heap.size) := S2.out.box.lt
  obtain ⟨p0, p1, p2, f0, f1, f2⟩ := S3.out.box.six
  clear hin hb3 CI S2
  go_wp2_with fail
  exact gives_copy rfl rfl S3.out IN.out W2.out

end Go.Proofs.YtjhffnoddhlikaaDoor

namespace Go.Proofs.YtjhffnoddhlikaaDoor
open Go.RowKit
set_option linter.unusedVariables false

/-- Is what was encoded again the element itself? -/
def okE (X : T × Int) (t : T) : Bool := decide (X.2 = 0 ∧ sameT X.1 t = true)
def GivesExact (ok : Bool) (xv zero : Value) (w : World) (e : Ending) (w' : World) : Prop :=
  e = .returned (.tuple #[if ok = true then xv else zero, .int .i64 (if ok = true then 0 else 2)]) ∧ Below w.heap.size w w'
theorem GivesExact.no {ok : Bool} {xv zero : Value} {w w' : World} (h : ok = false) (hb : Below w.heap.size w w') : GivesExact ok xv zero w (.returned (.tuple #[zero, .int .i64 2])) w' := by subst h; exact ⟨rfl, hb⟩
theorem GivesExact.yes {ok : Bool} {xv zero : Value} {w w' : World} (h : ok = true) (hb : Below w.heap.size w w') : GivesExact ok xv zero w (.returned (.tuple #[xv, .int .i64 0])) w' := by subst h; exact ⟨rfl, hb⟩
theorem GivesExact.ways {ok : Bool} {xv zero : Value} {w w' : World} {e : Ending} (h : GivesExact ok xv zero w e w') : (ok = true ∧ e = .returned (.tuple #[xv, .int .i64 0]) ∧ Below w.heap.size w w') ∨ (ok = false ∧ e = .returned (.tuple #[zero, .int .i64 2]) ∧ Below w.heap.size w w') := by
  obtain ⟨h, hb⟩ := h
  cases ok
  · exact .inr ⟨rfl, h, hb⟩
  · exact .inl ⟨rfl, h, hb⟩
/-- The same, where what is encoded again is told by a relation. -/
def HasNodeR (R : T × Int → Prop) (w : World) (e : Ending) (w' : World) : Prop := ∃ X, R X ∧ HasNodeE X w e w'
def GivesExactR (R : T × Int → Prop) (t : T) (xv zero : Value) (w : World) (e : Ending) (w' : World) : Prop := ∃ X, R X ∧ GivesExact (okE X t) xv zero w e w'
theorem same_iff (x y : T) : sameT x y = true ↔ x = y := ⟨same_is x y, fun h => by rw [h]; exact same_refl y⟩
theorem ok_iff (X : T × Int) (t : T) : okE X t = true ↔ X.2 = 0 ∧ X.1 = t := by unfold okE; rw [decide_eq_true_iff, same_iff]
theorem ok_iff_not (X : T × Int) (t : T) : okE X t = false ↔ ¬ (X.2 = 0 ∧ X.1 = t) := by rw [← ok_iff]; simp
theorem ok_err {x t : T} {er : Int} (h : ¬ er = 0) : okE (x, er) t = false := decide_eq_false (fun k => h k.1)
theorem ok_ne {x t : T} {er : Int} (h : ¬ x = t) : okE (x, er) t = false := decide_eq_false (fun k => h (same_is _ _ k.2))
theorem ok_eq {x t : T} (h : x = t) : okE (x, 0) t = true := decide_eq_true ⟨rfl, by rw [h]; exact same_refl t⟩
theorem T.In.rowk {w : World} {t : T} {z : Value} {A : Option Addr} {n c : Nat} {K : Option Addr} {m d : Nat} (h : t.In w (.agg #[z, .slice A n c, .slice K m d])) : Row w A n t.body ∧ t.kids.length = m := by
  obtain ⟨A1, n1, c1, K1, m1, d1, e, _, hr, _, _, hm, _⟩ := h.open
  simp only [Value.agg.injEq] at e
  have e' := congrArg Array.toList e
  simp only [List.cons.injEq, and_true, Value.slice.injEq] at e'
  obtain ⟨_, ⟨rfl, rfl, rfl⟩, rfl, rfl, rfl⟩ := e'
  exact ⟨hr, hm⟩
theorem leaf_eq {x t : T} (hx : x.kids = []) (h1 : x.tag = t.tag) (h2 : x.body = t.body) (h3 : t.kids = []) : x = t := by
  obtain ⟨a, b, c⟩ := x
  obtain ⟨a', b', c'⟩ := t
  simp only [T.kids, T.tag, T.body] at *
  subst hx h1 h2 h3
  rfl

set_option maxHeartbeats 2000000 in
set_option maxRecDepth 100000 in
theorem exact_u64 (t : T) (v : Value) (w : World) (X : T × Int) (x0 : Int) (hX : X.1.kids = []) (hin : t.In w v) (hF : ∀ W, Below w.heap.size w W → Calls Tryd.prog 48 #[.int .u64 x0] W (HasNodeE X W)) :
    Calls Tryd.prog 47 #[v, .int .u64 x0, .func (.func 48) #[] #[]] w (GivesExact (okE X t) (.int .u64 x0) (.int .u64 0) w) := by
  obtain ⟨A, n, c, K, m, d, rfl, hw, hr, hn, hc, hm, hm', hks⟩ := hin.open
  have BX := Lib.hid (Box.start hin)
  have HF := Lib.hid hF
  have HM := Lib.hid hm
  clear hr hks hc hin hm' hw hn hF hm
  go_enter Tryd.func47, Tryd.ntmps47
  generalize hw2 : w.alloc (.cells #[.int .i64 t.tag, .slice A n c, .slice K m d] 26) = w2 at *
  go_wp2_with fail
  refine (HF.out _ BX.out.below).mono ?_
  rintro e w3 ⟨A3, n3, c3, K3, m3, d3, rfl, hin3, hb3⟩
  have P4 := Lib.hid (Box.start hin3)
  have B4 := Lib.hid ((BX.out.go hb3).go P4.out.below)
  clear hb3 hin3 BX HF hw2
  obtain ⟨x, er⟩ := X
  simp only at P4 B4 hX ⊢
  obtain ⟨p0, p1, p2⟩ := P4.out.cells
  obtain ⟨g0, g1, g2⟩ := B4.out.cells
  have HX := Lib.hid hX
  clear hX
  by_cases he : er = 0
  rotate_left
  · have F := ok_err (x := x) (t := t) he
    have t0 : (er != 0) = true := by simpa using he
    have F := Lib.hid F
    clear he
    clear p0 p1 p2 g0 g1 g2
    go_wp2_with fail
    go_ret2
    exact GivesExact.no F.out B4.out.below
  subst he
  by_cases ht : x.tag = t.tag
  rotate_left
  · have F := Lib.hid (ok_ne (x := x) (t := t) (er := 0) (fun e => ht (by rw [e])))
    have t1 : (x.tag != t.tag) = true := by simpa using ht
    clear ht
    go_wp2_with fail
    go_ret2
    exact GivesExact.no F.out B4.out.below
  have HT := Lib.hid ht
  have t1 : (x.tag != t.tag) = false := by simpa using ht
  clear ht
  have CE := Lib.hid (equal_any A3 A n3 n c3 c x.body t.body _ P4.out.has.rowk.1 B4.out.has.rowk.1)
  go_wp2_with fail
  refine CE.out.mono ?_
  rintro e w5 ⟨rfl, rfl⟩
  clear CE
  by_cases hb : x.body = t.body
  rotate_left
  · have F := Lib.hid (ok_ne (x := x) (t := t) (er := 0) (fun e => hb (by rw [e])))
    have t2 : decide (x.body = t.body) = false := decide_eq_false hb
    rw [t2]
    clear hb t2
    go_wp2_with fail
    go_ret2
    exact GivesExact.no F.out B4.out.below
  have HB := Lib.hid hb
  have t2 : decide (x.body = t.body) = true := decide_eq_true hb
  rw [t2]
  clear hb t2
  by_cases hm0 : m = 0
  · subst hm0
    have F := Lib.hid (ok_eq (x := x) (t := t) (leaf_eq HX.out HT.out HB.out (List.eq_nil_of_length_eq_zero HM.out)))
    go_wp2_with fail
    go_ret2
    exact GivesExact.yes F.out B4.out.below
  · have F := Lib.hid (ok_ne (x := x) (t := t) (er := 0) (fun e => hm0 (by rw [← HM.out, ← e, HX.out]; rfl)))
    have t3 : ((m : Int) != 0) = true := by simpa using hm0
    clear hm0
    go_wp2_with fail
    go_ret2
    exact GivesExact.no F.out B4.out.below

set_option maxHeartbeats 2000000 in
set_option maxRecDepth 100000 in
theorem exact_bytes (t : T) (v : Value) (w : World) (X : T × Int) (xa : Option Addr) (xn xc : Nat) (hX : X.1.kids = []) (hin : t.In w v) (hF : ∀ W, Below w.heap.size w W → Calls Tryd.prog 52 #[.slice xa xn xc] W (HasNodeE X W)) :
    Calls Tryd.prog 51 #[v, .slice xa xn xc, .func (.func 52) #[] #[]] w (GivesExact (okE X t) (.slice xa xn xc) (.slice none 0 0) w) := by
  obtain ⟨A, n, c, K, m, d, rfl, hw, hr, hn, hc, hm, hm', hks⟩ := hin.open
  have BX := Lib.hid (Box.start hin)
  have HF := Lib.hid hF
  have HM := Lib.hid hm
  clear hr hks hc hin hm' hw hn hF hm
  go_enter Tryd.func51, Tryd.ntmps51
  generalize hw2 : w.alloc (.cells #[.int .i64 t.tag, .slice A n c, .slice K m d] 26) = w2 at *
  go_wp2_with fail
  refine (HF.out _ BX.out.below).mono ?_
  rintro e w3 ⟨A3, n3, c3, K3, m3, d3, rfl, hin3, hb3⟩
  have P4 := Lib.hid (Box.start hin3)
  have B4 := Lib.hid ((BX.out.go hb3).go P4.out.below)
  clear hb3 hin3 BX HF hw2
  obtain ⟨x, er⟩ := X
  simp only at P4 B4 hX ⊢
  obtain ⟨p0, p1, p2⟩ := P4.out.cells
  obtain ⟨g0, g1, g2⟩ := B4.out.cells
  have HX := Lib.hid hX
  clear hX
  by_cases he : er = 0
  rotate_left
  · have F := ok_err (x := x) (t := t) he
    have t0 : (er != 0) = true := by simpa using he
    have F := Lib.hid F
    clear he
    clear p0 p1 p2 g0 g1 g2
    go_wp2_with fail
    go_ret2
    exact GivesExact.no F.out B4.out.below
  subst he
  by_cases ht : x.tag = t.tag
  rotate_left
  · have F := Lib.hid (ok_ne (x := x) (t := t) (er := 0) (fun e => ht (by rw [e])))
    have t1 : (x.tag != t.tag) = true := by simpa using ht
    clear ht
    go_wp2_with fail
    go_ret2
    exact GivesExact.no F.out B4.out.below
  have HT := Lib.hid ht
  have t1 : (x.tag != t.tag) = false := by simpa using ht
  clear ht
  have CE := Lib.hid (equal_any A3 A n3 n c3 c x.body t.body _ P4.out.has.rowk.1 B4.out.has.rowk.1)
  go_wp2_with fail
  refine CE.out.mono ?_
  rintro e w5 ⟨rfl, rfl⟩
  clear CE
  by_cases hb : x.body = t.body
  rotate_left
  · have F := Lib.hid (ok_ne (x := x) (t := t) (er := 0) (fun e => hb (by rw [e])))
    have t2 : decide (x.body = t.body) = false := decide_eq_false hb
    rw [t2]
    clear hb t2
    go_wp2_with fail
    go_ret2
    exact GivesExact.no F.out B4.out.below
  have HB := Lib.hid hb
  have t2 : decide (x.body = t.body) = true := decide_eq_true hb
  rw [t2]
  clear hb t2
  by_cases hm0 : m = 0
  · subst hm0
    have F := Lib.hid (ok_eq (x := x) (t := t) (leaf_eq HX.out HT.out HB.out (List.eq_nil_of_length_eq_zero HM.out)))
    go_wp2_with fail
    go_ret2
    exact GivesExact.yes F.out B4.out.below
  · have F := Lib.hid (ok_ne (x := x) (t := t) (er := 0) (fun e => hm0 (by rw [← HM.out, ← e, HX.out]; rfl)))
    have t3 : ((m : Int) != 0) = true := by simpa using hm0
    clear hm0
    go_wp2_with fail
    go_ret2
    exact GivesExact.no F.out B4.out.below

set_option maxHeartbeats 2000000 in
set_option maxRecDepth 100000 in
theorem exact_of (t : T) (v : Value) (w : World) (X : T × Int) (xa : Option Addr) (xn xc : Nat) (xp : Addr) (hX : X.1.kids = []) (hin : t.In w v) (hF : ∀ W, Below w.heap.size w W → Calls Tryd.prog 59 #[.slice xa xn xc, .pointer (some xp)] W (HasNodeE X W)) :
    Calls Tryd.prog 51 #[v, .slice xa xn xc, .func (.func 59) #[] #[.pointer (some xp)]] w (GivesExact (okE X t) (.slice xa xn xc) (.slice none 0 0) w) := by
  obtain ⟨A, n, c, K, m, d, rfl, hw, hr, hn, hc, hm, hm', hks⟩ := hin.open
  have BX := Lib.hid (Box.start hin)
  have HF := Lib.hid hF
  have HM := Lib.hid hm
  clear hr hks hc hin hm' hw hn hF hm
  go_enter Tryd.func51, Tryd.ntmps51
  generalize hw2 : w.alloc (.cells #[.int .i64 t.tag, .slice A n c, .slice K m d] 26) = w2 at *
  go_wp2_with fail
  refine (HF.out _ BX.out.below).mono ?_
  rintro e w3 ⟨A3, n3, c3, K3, m3, d3, rfl, hin3, hb3⟩
  have P4 := Lib.hid (Box.start hin3)
  have B4 := Lib.hid ((BX.out.go hb3).go P4.out.below)
  clear hb3 hin3 BX HF hw2
  obtain ⟨x, er⟩ := X
  simp only at P4 B4 hX ⊢
  obtain ⟨p0, p1, p2⟩ := P4.out.cells
  obtain ⟨g0, g1, g2⟩ := B4.out.cells
  have HX := Lib.hid hX
  clear hX
  by_cases he : er = 0
  rotate_left
  · have F := ok_err (x := x) (t := t) he
    have t0 : (er != 0) = true := by simpa using he
    have F := Lib.hid F
    clear he
    clear p0 p1 p2 g0 g1 g2
    go_wp2_with fail
    go_ret2
    exact GivesExact.no F.out B4.out.below
  subst he
  by_cases ht : x.tag = t.tag
  rotate_left
  · have F := Lib.hid (ok_ne (x := x) (t := t) (er := 0) (fun e => ht (by rw [e])))
    have t1 : (x.tag != t.tag) = true := by simpa using ht
    clear ht
    go_wp2_with fail
    go_ret2
    exact GivesExact.no F.out B4.out.below
  have HT := Lib.hid ht
  have t1 : (x.tag != t.tag) = false := by simpa using ht
  clear ht
  have CE := Lib.hid (equal_any A3 A n3 n c3 c x.body t.body _ P4.out.has.rowk.1 B4.out.has.rowk.1)
  go_wp2_with fail
  refine CE.out.mono ?_
  rintro e w5 ⟨rfl, rfl⟩
  clear CE
  by_cases hb : x.body = t.body
  rotate_left
  · have F := Lib.hid (ok_ne (x := x) (t := t) (er := 0) (fun e => hb (by rw [e])))
    have t2 : decide (x.body = t.body) = false := decide_eq_false hb
    rw [t2]
    clear hb t2
    go_wp2_with fail
    go_ret2
    exact GivesExact.no F.out B4.out.below
  have HB := Lib.hid hb
  have t2 : decide (x.body = t.body) = true := decide_eq_true hb
  rw [t2]
  clear hb t2
  by_cases hm0 : m = 0
  · subst hm0
    have F := Lib.hid (ok_eq (x := x) (t := t) (leaf_eq HX.out HT.out HB.out (List.eq_nil_of_length_eq_zero HM.out)))
    go_wp2_with fail
    go_ret2
    exact GivesExact.yes F.out B4.out.below
  · have F := Lib.hid (ok_ne (x := x) (t := t) (er := 0) (fun e => hm0 (by rw [← HM.out, ← e, HX.out]; rfl)))
    have t3 : ((m : Int) != 0) = true := by simpa using hm0
    clear hm0
    go_wp2_with fail
    go_ret2
    exact GivesExact.no F.out B4.out.below

set_option maxHeartbeats 2000000 in
set_option maxRecDepth 100000 in
theorem exact_u32s (t : T) (v : Value) (w : World) (X : T × Int) (xa : Option Addr) (xn xc : Nat) (hX : X.1.kids = []) (hin : t.In w v) (hF : ∀ W, Below w.heap.size w W → Calls Tryd.prog 20 #[.slice xa xn xc] W (HasNodeE X W)) :
    Calls Tryd.prog 56 #[v, .slice xa xn xc, .func (.func 20) #[] #[]] w (GivesExact (okE X t) (.slice xa xn xc) (.slice none 0 0) w) := by
  obtain ⟨A, n, c, K, m, d, rfl, hw, hr, hn, hc, hm, hm', hks⟩ := hin.open
  have BX := Lib.hid (Box.start hin)
  have HF := Lib.hid hF
  have HM := Lib.hid hm
  clear hr hks hc hin hm' hw hn hF hm
  go_enter Tryd.func56, Tryd.ntmps56
  generalize hw2 : w.alloc (.cells #[.int .i64 t.tag, .slice A n c, .slice K m d] 26) = w2 at *
  go_wp2_with fail
  refine (HF.out _ BX.out.below).mono ?_
  rintro e w3 ⟨A3, n3, c3, K3, m3, d3, rfl, hin3, hb3⟩
  have P4 := Lib.hid (Box.start hin3)
  have B4 := Lib.hid ((BX.out.go hb3).go P4.out.below)
  clear hb3 hin3 BX HF hw2
  obtain ⟨x, er⟩ := X
  simp only at P4 B4 hX ⊢
  obtain ⟨p0, p1, p2⟩ := P4.out.cells
  obtain ⟨g0, g1, g2⟩ := B4.out.cells
  have HX := Lib.hid hX
  clear hX
  by_cases he : er = 0
  rotate_left
  · have F := ok_err (x := x) (t := t) he
    have t0 : (er != 0) = true := by simpa using he
    have F := Lib.hid F
    clear he
    clear p0 p1 p2 g0 g1 g2
    go_wp2_with fail
    go_ret2
    exact GivesExact.no F.out B4.out.below
  subst he
  by_cases ht : x.tag = t.tag
  rotate_left
  · have F := Lib.hid (ok_ne (x := x) (t := t) (er := 0) (fun e => ht (by rw [e])))
    have t1 : (x.tag != t.tag) = true := by simpa using ht
    clear ht
    go_wp2_with fail
    go_ret2
    exact GivesExact.no F.out B4.out.below
  have HT := Lib.hid ht
  have t1 : (x.tag != t.tag) = false := by simpa using ht
  clear ht
  have CE := Lib.hid (equal_any A3 A n3 n c3 c x.body t.body _ P4.out.has.rowk.1 B4.out.has.rowk.1)
  go_wp2_with fail
  refine CE.out.mono ?_
  rintro e w5 ⟨rfl, rfl⟩
  clear CE
  by_cases hb : x.body = t.body
  rotate_left
  · have F := Lib.hid (ok_ne (x := x) (t := t) (er := 0) (fun e => hb (by rw [e])))
    have t2 : decide (x.body = t.body) = false := decide_eq_false hb
    rw [t2]
    clear hb t2
    go_wp2_with fail
    go_ret2
    exact GivesExact.no F.out B4.out.below
  have HB := Lib.hid hb
  have t2 : decide (x.body = t.body) = true := decide_eq_true hb
  rw [t2]
  clear hb t2
  by_cases hm0 : m = 0
  · subst hm0
    have F := Lib.hid (ok_eq (x := x) (t := t) (leaf_eq HX.out HT.out HB.out (List.eq_nil_of_length_eq_zero HM.out)))
    go_wp2_with fail
    go_ret2
    exact GivesExact.yes F.out B4.out.below
  · have F := Lib.hid (ok_ne (x := x) (t := t) (er := 0) (fun e => hm0 (by rw [← HM.out, ← e, HX.out]; rfl)))
    have t3 : ((m : Int) != 0) = true := by simpa using hm0
    clear hm0
    go_wp2_with fail
    go_ret2
    exact GivesExact.no F.out B4.out.below

set_option maxHeartbeats 2000000 in
set_option maxRecDepth 100000 in
theorem exact_bool (t : T) (v : Value) (w : World) (X : T × Int) (x0 : Bool) (hX : X.1.kids = []) (hin : t.In w v) (hF : ∀ W, Below w.heap.size w W → Calls Tryd.prog 61 #[.bool x0] W (HasNodeE X W)) :
    Calls Tryd.prog 60 #[v, .bool x0, .func (.func 61) #[] #[]] w (GivesExact (okE X t) (.bool x0) (.bool false) w) := by
  obtain ⟨A, n, c, K, m, d, rfl, hw, hr, hn, hc, hm, hm', hks⟩ := hin.open
  have BX := Lib.hid (Box.start hin)
  have HF := Lib.hid hF
  have HM := Lib.hid hm
  clear hr hks hc hin hm' hw hn hF hm
  go_enter Tryd.func60, Tryd.ntmps60
  generalize hw2 : w.alloc (.cells #[.int .i64 t.tag, .slice A n c, .slice K m d] 26) = w2 at *
  go_wp2_with fail
  refine (HF.out _ BX.out.below).mono ?_
  rintro e w3 ⟨A3, n3, c3, K3, m3, d3, rfl, hin3, hb3⟩
  have P4 := Lib.hid (Box.start hin3)
  have B4 := Lib.hid ((BX.out.go hb3).go P4.out.below)
  clear hb3 hin3 BX HF hw2
  obtain ⟨x, er⟩ := X
  simp only at P4 B4 hX ⊢
  obtain ⟨p0, p1, p2⟩ := P4.out.cells
  obtain ⟨g0, g1, g2⟩ := B4.out.cells
  have HX := Lib.hid hX
  clear hX
  by_cases he : er = 0
  rotate_left
  · have F := ok_err (x := x) (t := t) he
    have t0 : (er != 0) = true := by simpa using he
    have F := Lib.hid F
    clear he
    clear p0 p1 p2 g0 g1 g2
    go_wp2_with fail
    go_ret2
    exact GivesExact.no F.out B4.out.below
  subst he
  by_cases ht : x.tag = t.tag
  rotate_left
  · have F := Lib.hid (ok_ne (x := x) (t := t) (er := 0) (fun e => ht (by rw [e])))
    have t1 : (x.tag != t.tag) = true := by simpa using ht
    clear ht
    go_wp2_with fail
    go_ret2
    exact GivesExact.no F.out B4.out.below
  have HT := Lib.hid ht
  have t1 : (x.tag != t.tag) = false := by simpa using ht
  clear ht
  have CE := Lib.hid (equal_any A3 A n3 n c3 c x.body t.body _ P4.out.has.rowk.1 B4.out.has.rowk.1)
  go_wp2_with fail
  refine CE.out.mono ?_
  rintro e w5 ⟨rfl, rfl⟩
  clear CE
  by_cases hb : x.body = t.body
  rotate_left
  · have F := Lib.hid (ok_ne (x := x) (t := t) (er := 0) (fun e => hb (by rw [e])))
    have t2 : decide (x.body = t.body) = false := decide_eq_false hb
    rw [t2]
    clear hb t2
    go_wp2_with fail
    go_ret2
    exact GivesExact.no F.out B4.out.below
  have HB := Lib.hid hb
  have t2 : decide (x.body = t.body) = true := decide_eq_true hb
  rw [t2]
  clear hb t2
  by_cases hm0 : m = 0
  · subst hm0
    have F := Lib.hid (ok_eq (x := x) (t := t) (leaf_eq HX.out HT.out HB.out (List.eq_nil_of_length_eq_zero HM.out)))
    go_wp2_with fail
    go_ret2
    exact GivesExact.yes F.out B4.out.below
  · have F := Lib.hid (ok_ne (x := x) (t := t) (er := 0) (fun e => hm0 (by rw [← HM.out, ← e, HX.out]; rfl)))
    have t3 : ((m : Int) != 0) = true := by simpa using hm0
    clear hm0
    go_wp2_with fail
    go_ret2
    exact GivesExact.no F.out B4.out.below

set_option maxHeartbeats 2000000 in
set_option maxRecDepth 100000 in
theorem exact_string (t : T) (v : Value) (w : World) (X : T × Int) (x0 : ByteArray) (hX : X.1.kids = []) (hin : t.In w v) (hF : ∀ W, Below w.heap.size w W → Calls Tryd.prog 33 #[.string x0] W (HasNodeE X W)) :
    Calls Tryd.prog 63 #[v, .string x0, .func (.func 33) #[] #[]] w (GivesExact (okE X t) (.string x0) (.string ⟨#[]⟩) w) := by
  obtain ⟨A, n, c, K, m, d, rfl, hw, hr, hn, hc, hm, hm', hks⟩ := hin.open
  have BX := Lib.hid (Box.start hin)
  have HF := Lib.hid hF
  have HM := Lib.hid hm
  clear hr hks hc hin hm' hw hn hF hm
  go_enter Tryd.func63, Tryd.ntmps63
  generalize hw2 : w.alloc (.cells #[.int .i64 t.tag, .slice A n c, .slice K m d] 26) = w2 at *
  go_wp2_with fail
  refine (HF.out _ BX.out.below).mono ?_
  rintro e w3 ⟨A3, n3, c3, K3, m3, d3, rfl, hin3, hb3⟩
  have P4 := Lib.hid (Box.start hin3)
  have B4 := Lib.hid ((BX.out.go hb3).go P4.out.below)
  clear hb3 hin3 BX HF hw2
  obtain ⟨x, er⟩ := X
  simp only at P4 B4 hX ⊢
  obtain ⟨p0, p1, p2⟩ := P4.out.cells
  obtain ⟨g0, g1, g2⟩ := B4.out.cells
  have HX := Lib.hid hX
  clear hX
  by_cases he : er = 0
  rotate_left
  · have F := ok_err (x := x) (t := t) he
    have t0 : (er != 0) = true := by simpa using he
    have F := Lib.hid F
    clear he
    clear p0 p1 p2 g0 g1 g2
    go_wp2_with fail
    go_ret2
    exact GivesExact.no F.out B4.out.below
  subst he
  by_cases ht : x.tag = t.tag
  rotate_left
  · have F := Lib.hid (ok_ne (x := x) (t := t) (er := 0) (fun e => ht (by rw [e])))
    have t1 : (x.tag != t.tag) = true := by simpa using ht
    clear ht
    go_wp2_with fail
    go_ret2
    exact GivesExact.no F.out B4.out.below
  have HT := Lib.hid ht
  have t1 : (x.tag != t.tag) = false := by simpa using ht
  clear ht
  have CE := Lib.hid (equal_any A3 A n3 n c3 c x.body t.body _ P4.out.has.rowk.1 B4.out.has.rowk.1)
  go_wp2_with fail
  refine CE.out.mono ?_
  rintro e w5 ⟨rfl, rfl⟩
  clear CE
  by_cases hb : x.body = t.body
  rotate_left
  · have F := Lib.hid (ok_ne (x := x) (t := t) (er := 0) (fun e => hb (by rw [e])))
    have t2 : decide (x.body = t.body) = false := decide_eq_false hb
    rw [t2]
    clear hb t2
    go_wp2_with fail
    go_ret2
    exact GivesExact.no F.out B4.out.below
  have HB := Lib.hid hb
  have t2 : decide (x.body = t.body) = true := decide_eq_true hb
  rw [t2]
  clear hb t2
  by_cases hm0 : m = 0
  · subst hm0
    have F := Lib.hid (ok_eq (x := x) (t := t) (leaf_eq HX.out HT.out HB.out (List.eq_nil_of_length_eq_zero HM.out)))
    go_wp2_with fail
    go_ret2
    exact GivesExact.yes F.out B4.out.below
  · have F := Lib.hid (ok_ne (x := x) (t := t) (er := 0) (fun e => hm0 (by rw [← HM.out, ← e, HX.out]; rfl)))
    have t3 : ((m : Int) != 0) = true := by simpa using hm0
    clear hm0
    go_wp2_with fail
    go_ret2
    exact GivesExact.no F.out B4.out.below

set_option maxHeartbeats 2000000 in
set_option maxRecDepth 100000 in
theorem exact_i64 (t : T) (v : Value) (w : World) (R : T × Int → Prop) (x0 : Int) (hX : ∀ X, R X → X.1.kids = []) (hin : t.In w v) (hF : ∀ W, Below w.heap.size w W → Calls Tryd.prog 37 #[.int .i64 x0] W (HasNodeR R W)) :
    Calls Tryd.prog 67 #[v, .int .i64 x0, .func (.func 37) #[] #[]] w (GivesExactR R t (.int .i64 x0) (.int .i64 0) w) := by
  obtain ⟨A, n, c, K, m, d, rfl, hw, hr, hn, hc, hm, hm', hks⟩ := hin.open
  have BX := Lib.hid (Box.start hin)
  have HF := Lib.hid hF
  have HM := Lib.hid hm
  clear hr hks hc hin hm' hw hn hF hm
  go_enter Tryd.func67, Tryd.ntmps67
  generalize hw2 : w.alloc (.cells #[.int .i64 t.tag, .slice A n c, .slice K m d] 26) = w2 at *
  go_wp2_with fail
  refine (HF.out _ BX.out.below).mono ?_
  rintro e w3 ⟨X, hRX, A3, n3, c3, K3, m3, d3, rfl, hin3, hb3⟩
  have P4 := Lib.hid (Box.start hin3)
  have B4 := Lib.hid ((BX.out.go hb3).go P4.out.below)
  clear hb3 hin3 BX HF hw2
  have hX := hX X hRX
  obtain ⟨x, er⟩ := X
  have RX := Lib.hid hRX
  clear hRX
  simp only at P4 B4 hX ⊢
  obtain ⟨p0, p1, p2⟩ := P4.out.cells
  obtain ⟨g0, g1, g2⟩ := B4.out.cells
  have HX := Lib.hid hX
  clear hX
  by_cases he : er = 0
  rotate_left
  · have F := ok_err (x := x) (t := t) he
    have t0 : (er != 0) = true := by simpa using he
    have F := Lib.hid F
    clear he
    clear p0 p1 p2 g0 g1 g2
    go_wp2_with fail
    go_ret2
    exact ⟨_, RX.out, GivesExact.no F.out B4.out.below⟩
  subst he
  by_cases ht : x.tag = t.tag
  rotate_left
  · have F := Lib.hid (ok_ne (x := x) (t := t) (er := 0) (fun e => ht (by rw [e])))
    have t1 : (x.tag != t.tag) = true := by simpa using ht
    clear ht
    go_wp2_with fail
    go_ret2
    exact ⟨_, RX.out, GivesExact.no F.out B4.out.below⟩
  have HT := Lib.hid ht
  have t1 : (x.tag != t.tag) = false := by simpa using ht
  clear ht
  have CE := Lib.hid (equal_any A3 A n3 n c3 c x.body t.body _ P4.out.has.rowk.1 B4.out.has.rowk.1)
  go_wp2_with fail
  refine CE.out.mono ?_
  rintro e w5 ⟨rfl, rfl⟩
  clear CE
  by_cases hb : x.body = t.body
  rotate_left
  · have F := Lib.hid (ok_ne (x := x) (t := t) (er := 0) (fun e => hb (by rw [e])))
    have t2 : decide (x.body = t.body) = false := decide_eq_false hb
    rw [t2]
    clear hb t2
    go_wp2_with fail
    go_ret2
    exact ⟨_, RX.out, GivesExact.no F.out B4.out.below⟩
  have HB := Lib.hid hb
  have t2 : decide (x.body = t.body) = true := decide_eq_true hb
  rw [t2]
  clear hb t2
  by_cases hm0 : m = 0
  · subst hm0
    have F := Lib.hid (ok_eq (x := x) (t := t) (leaf_eq HX.out HT.out HB.out (List.eq_nil_of_length_eq_zero HM.out)))
    go_wp2_with fail
    go_ret2
    exact ⟨_, RX.out, GivesExact.yes F.out B4.out.below⟩
  · have F := Lib.hid (ok_ne (x := x) (t := t) (er := 0) (fun e => hm0 (by rw [← HM.out, ← e, HX.out]; rfl)))
    have t3 : ((m : Int) != 0) = true := by simpa using hm0
    clear hm0
    go_wp2_with fail
    go_ret2
    exact ⟨_, RX.out, GivesExact.no F.out B4.out.below⟩

end Go.Proofs.YtjhffnoddhlikaaDoor
