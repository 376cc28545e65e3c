/-
  Proved: for every list of strings and either bool the law RadixJoined returns true, and each argument reads afterwards as it read before. The condition is the card's own: the two listed variables of package unicode/utf8 hold what the program's text lays.
-/
import Derived.Test.YtmmcmiljnmbfcaaDoorCards
import Derived.Test.YtmmcmiljnmbfcaaDoorTie
import Derived.Test.YtmmcmiljnmbfcaaDoorWrap
import Derived.Test.YtmmcmiljnmbfcaaDoorLines
import Derived.Test.YtmmcmiljnmbfcaaDoorAwake
import Derived.WalkKit
import Derived.ProofKit
import Derived.OpenShut
import Derived.ShutString
import Derived.ChangeOld
import Derived.Below
import Derived.SliceStrings
import Derived.Deep.LoopGhost
import Derived.SevenTiedAt
namespace Go.Proofs.YtmmcmiljnmbfcaaDoor.radixJoined
open Go.ChangeShapes Go.WideShapes Go.ChangeAt Go.RowKit
open Go.ChangeMaps (open_string shut_string)
set_option linter.unusedVariables false

theorem drewN_below (w : World) (n : Nat) : Below w.heap.size w (w.drewN n) := ⟨rfl, rfl, rfl, Nat.le_refl _, fun _ _ => rfl⟩

/-- What the lines are as bytes. -/
def LL (xs : List ByteArray) : List (List UInt8) := xs.map fun s => s.data.toList
theorem BL_LL (xs : List ByteArray) : BL (LL xs) = xs := by
  unfold BL LL
  rw [List.map_map]
  have : (bytesOf ∘ fun s : ByteArray => s.data.toList) = id := by
    funext x
    exact bytesOf_data x
  rw [this, List.map_id]
/-- No byte of the first j is 10 or 13. -/
def Clean (p : ByteArray) (j : Nat) : Prop := ∀ i, i < j → nth p i ≠ 10 ∧ nth p i ≠ 13
theorem clean_step {p : ByteArray} {j : Nat} (h : Clean p j) (h1 : nth p j ≠ 10) (h2 : nth p j ≠ 13) : Clean p (j + 1) := by
  intro i hi
  rcases Nat.lt_or_ge i j with h3 | h3
  · exact h i h3
  · obtain rfl : i = j := by omega
    exact ⟨h1, h2⟩
theorem clean_all {p : ByteArray} (h : Clean p p.size) : ∀ x ∈ p.data.toList, x ≠ 10 ∧ x ≠ 13 := by
  intro x hx
  obtain ⟨i, hi, rfl⟩ := List.mem_iff_getElem.1 hx
  have hs := Lib.size_eq p
  obtain ⟨hk, hn⟩ := nth_data p (show i < p.size by omega)
  obtain ⟨h1, h2⟩ := h i (by omega)
  rw [hn] at h1 h2
  exact ⟨fun e => h1 (by rw [e]; rfl), fun e => h2 (by rw [e]; rfl)⟩

/-- Where the text stands behind k lines. -/
def JoinRel (long : Bool) (xs : List ByteArray) (k : Nat) (S : ByteArray) : Prop :=
  S = bytesOf (joinL long (LL (xs.take k))) ∧ (∀ p ∈ xs.take k, p.size ≤ 100 ∧ ∀ x ∈ p.data.toList, x ≠ 10 ∧ x ≠ 13)
theorem jr_start (long : Bool) (xs : List ByteArray) : JoinRel long xs 0 ⟨#[]⟩ := ⟨by simp [LL, joinL, bytesOf], by simp⟩
theorem jr_step {long : Bool} {xs : List ByteArray} {k : Nat} {S : ByteArray} (h : JoinRel long xs k S) (hk : k < xs.length) {p : ByteArray} (hp : p = xs[k]?.getD ByteArray.empty) (h1 : p.size ≤ 100) (h2 : Clean p p.size) {S' : ByteArray} (hS : S' = bytesOf (S.data.toList ++ p.data.toList ++ eol long)) :
    JoinRel long xs (k + 1) S' := by
  rw [List.getElem?_eq_getElem hk, Option.getD_some] at hp
  refine ⟨?_, fun q hq => ?_⟩
  · rw [hS, h.1, data_bytesOf, List.take_succ_eq_append_getElem hk]
    unfold LL
    rw [List.map_append, List.map_singleton, joinL_snoc, ← hp]
  · rw [List.take_succ_eq_append_getElem hk, ← hp] at hq
    rcases List.mem_append.1 hq with hq | hq
    · exact h.2 q hq
    · obtain rfl : q = p := by simpa using hq
      exact ⟨h1, clean_all h2⟩
theorem jr_size {long : Bool} {xs : List ByteArray} {k : Nat} {S : ByteArray} (h : JoinRel long xs k S) (hk : k ≤ 50) : S.size ≤ 5100 := by
  have hl : (LL (xs.take k)).length ≤ 50 := by
    unfold LL
    rw [List.length_map, List.length_take]
    omega
  have := joinL_length long (LL (xs.take k)) (fun q hq => by
    obtain ⟨p, hp, rfl⟩ := List.mem_map.1 hq
    have := (h.2 p hp).1
    rw [Lib.size_eq] at this
    exact this)
  rw [h.1, Lib.size_eq, data_bytesOf]
  omega
theorem jr_done {long : Bool} {xs : List ByteArray} {k : Nat} {S : ByteArray} (h : JoinRel long xs k S) (hk : k = xs.length) : linesL S.data.toList = LL xs := by
  have h1 := h.1
  have h2 := h.2
  rw [List.take_of_length_le (by omega)] at h1 h2
  rw [h1, data_bytesOf]
  exact lines_join long _ (fun q hq => by
    obtain ⟨p, hp, rfl⟩ := List.mem_map.1 hq
    exact (h2 p hp).2)

set_option maxHeartbeats 2000000 in
theorem walk (a : Option Addr) (n ca : Nat) (xs : List ByteArray) (long : Bool) (m : Int) (w : World) (hx : SRow w a n xs) (hm : w.cell? ⟨0, 0, none⟩ = some (.int .i64 m)) (hnm : n ≤ maxLen) (hz : ∀ s ∈ xs, s.size ≤ maxLen) :
    Calls Tryd.prog 4 #[.slice a n ca, .bool long] w fun e w' => e = .returned (.bool true) ∧ Below w.heap.size w w' := by
  have hw0 : 0 < w.heap.size := by
    rcases Nat.eq_zero_or_pos w.heap.size with h | h
    · simp [World.cell?, Array.getElem?_eq_none (show w.heap.size ≤ 0 by omega)] at hm
    · exact h
  unfold maxLen at hnm hz
  have HX := Lib.hid hx
  have HZ := Lib.hid hz
  clear hx hz
  by_cases hs : n ≤ 50
  · go_enter Tryd.func4, Tryd.ntmps4
    go_wp2_with fail
    refine (awake_any w).mono ?_
    rintro e w1 ⟨rfl, hb1⟩
    have HM := Lib.hid ((hb1.cell (p := ⟨0, 0, none⟩) hw0).trans hm)
    have B1 := Lib.hid hb1
    have R1 := Lib.hid (HX.out.below hb1)
    clear hb1 hm
    go_wp2
    go_loopg [6, 7] n (fun g S i wr => ∃ (k : Nat) (s : ByteArray), k + g = n ∧ i = .int .i64 (k : Int) ∧ S = .string s ∧ JoinRel long xs k s ∧ w1 = wr)
    case atStart => exact ⟨0, _, by omega, rfl, rfl, jr_start long xs, rfl⟩
    case round =>
      obtain ⟨k, S, hkg, rfl, rfl, hjr, rfl⟩ := hrel
      have hk : k ≤ n := by omega
      have hsz := jr_size hjr (by omega)
      have JR := Lib.hid hjr
      clear hjr
      by_cases hlt : k < n
      · obtain ⟨b, off, rfl, hb, hc⟩ := R1.out.2 (by omega)
        have c1 := hc k hlt
        clear hc
        have hlen := R1.out.1
        have HP : Hid (∃ p, p = xs[k]?.getD ByteArray.empty) := Lib.hid ⟨_, rfl⟩
        obtain ⟨p, hp⟩ := HP.out
        rw [← hp] at c1
        have hpm : p.size ≤ 9223372036854775807 := by
          rw [hp, List.getElem?_eq_getElem (by omega), Option.getD_some]
          have := HZ.out _ (List.getElem_mem (show k < xs.length by omega))
          omega
        have JS := fun (h1 : p.size ≤ 100) (h2 : Clean p p.size) (S' : ByteArray) => jr_step JR.out (by omega) hp h1 h2 (S' := S')
        have JH := Lib.hid JS
        clear JS hp hlen HP
        by_cases h100 : p.size ≤ 100
        · go_wp2
          obtain ⟨g, rfl⟩ : ∃ g, gk = g + 1 := ⟨gk - 1, by omega⟩
          go_loopg [8] p.size (fun g2 i wy => ∃ j : Nat, j + g2 = p.size ∧ i = .int .i64 (j : Int) ∧ Clean p j ∧ w1 = wy)
          case atStart => exact ⟨0, by omega, rfl, fun i hi => absurd hi (by omega), rfl⟩
          case round =>
            obtain ⟨j, hjg, rfl, hcl, rfl⟩ := hrel
            have hj : j ≤ p.size := by omega
            have CL := Lib.hid hcl
            clear hcl
            by_cases hjl : j < p.size
            · have hi := str_at p j hjl (j : Int) rfl
              have CS := Lib.hid (fun h1 h2 => clean_step CL.out h1 h2)
              have hb := nth_range p j
              generalize nth p j = c at hi hb CS
              by_cases h10 : c = 10
              · have t1 : (c == 10) = true := by simpa using h10
                clear CS h10
                go_wp2
                go_ret
                exact ⟨rfl, B1.out⟩
              · have t1 : (c == 10) = false := by simpa using h10
                by_cases h13 : c = 13
                · have t2 : (c == 13) = true := by simpa using h13
                  clear CS h10 h13
                  go_wp2
                  go_ret
                  exact ⟨rfl, B1.out⟩
                · have t2 : (c == 13) = false := by simpa using h13
                  have CN := Lib.hid (CS.out h10 h13)
                  clear CS h10 h13
                  go_wp2
                  obtain ⟨g2, rfl⟩ : ∃ g2, gk = g2 + 1 := ⟨gk - 1, by omega⟩
                  go_roundg g2
                  case measure => omega
                  case rel => exact ⟨j + 1, by omega, by go_num, CN.out, rfl⟩
            · obtain rfl : j = p.size := by omega
              have JN := Lib.hid (JH.out h100 CL.out)
              clear JH CL
              cases long
              · go_wp2
                go_roundg g
                case measure => omega
                case rel => exact ⟨k + 1, _, by omega, by go_num, rfl, JN.out _ rfl, rfl⟩
              · go_wp2
                go_roundg g
                case measure => omega
                case rel => exact ⟨k + 1, _, by omega, by go_num, rfl, JN.out _ rfl, rfl⟩
        · go_wp2
          go_ret
          exact ⟨rfl, B1.out⟩
      · obtain rfl : k = n := by omega
        have JD := Lib.hid (jr_done JR.out HX.out.1.symm)
        clear JR
        go_wp2_with fail
        refine (lines_any S m _ (by omega) HM.out).mono ?_
        rintro e w2 ⟨a2, c2, rfl, hr2, hb2⟩
        have hll : (LL xs).length = k := by
          unfold LL
          rw [List.length_map]
          exact HX.out.1
        rw [JD.out, BL_LL, hll] at hr2
        rw [JD.out, hll]
        have R2 := Lib.hid hr2
        have R3 := Lib.hid (R1.out.below hb2)
        have B2 := Lib.hid (Below.step B1.out hb2)
        clear hll
        clear hr2 hb2 HM B1 R1 JD
        go_wp2_with fail
        refine (same_any _ _ _ _ _ _ _ _ _ R2.out R3.out (by omega) (by omega)).mono ?_
        rintro e w4 ⟨rfl, q, rfl⟩
        rw [decide_eq_true rfl]
        have B4 := Lib.hid (Below.step B2.out (drewN_below w2 q))
        clear R2 R3 B2
        go_wp2
        go_ret
        exact ⟨rfl, B4.out⟩
  · go_enter Tryd.func4, Tryd.ntmps4
    go_wp2_with fail
    refine (awake_any w).mono ?_
    rintro e w1 ⟨rfl, hb1⟩
    have B1 := Lib.hid hb1
    clear hb1
    go_wp2
    go_ret
    exact ⟨rfl, B1.out⟩

theorem Tryd.cells9 : Tryd.prog.cellsOf 9 = 1 := by kernel_rfl
theorem row_of_strings {W : World} {H : Type} {enc : TypeId × Value → H} {base : Nat} {spare : Nat → Bool} {held : Bool} {fuel : Nat} {a : Option Addr} {n c : Nat} {x : DataW H × List MemPlace} (h : DataW.trod enc Tryd.prog W base spare held fuel 24 [.slice a n c] = some x) :
    ∃ xs, SRow W a n xs ∧ n ≤ maxLen ∧ ∀ s ∈ xs, s.size ≤ maxLen := by
  rcases open_strings Tryd.underlying24 Tryd.underlying9 Tryd.cells9 h with ⟨hcs, _⟩ | ⟨ad, len, cap, ss, hcs, _, hl, hm, hz, _, hcell, hsz⟩
  · simp at hcs
    obtain ⟨rfl, rfl, rfl⟩ := hcs
    exact ⟨[], ⟨rfl, fun h => absurd h (by omega)⟩, Nat.zero_le _, by simp⟩
  · simp at hcs
    obtain ⟨rfl, rfl, rfl⟩ := hcs
    have hlen : n ≤ ss.length := by
      rw [hz]
      split <;> omega
    refine ⟨ss.take n, ⟨by rw [List.length_take]; omega, fun hn => ?_⟩, by omega, fun s hs => hsz s (List.mem_of_mem_take hs)⟩
    obtain ⟨b, off, spot⟩ := ad
    have hc := hcell 0 (by omega)
    have hspot : spot = none := by simpa [Addr.add] using World.cell?_spot hc
    subst hspot
    refine ⟨b, off, rfl, ?_, fun i hi => ?_⟩
    · rcases Nat.lt_or_ge b W.heap.size with hl' | hl'
      · exact hl'
      · simp [Addr.add, World.cell?, Array.getElem?_eq_none hl'] at hc
    · have := hcell i (by omega)
      rw [Addr.add_lit] at this
      rw [this, List.getD_eq_getElem?_getD, List.getElem?_take, if_pos hi]

/-! ### THE ROW's STEP -/
set_option maxRecDepth 100000 in
theorem lifted (os : Os) (started : os.Started) (H : Type) (enc : TypeId × Value → H) :
    ReturnsInHanded {} Tryd.checked os 4 .any (fun w args => (Rows.radixJoinedSpec.pre enc Tryd.prog Tryd.f4 Rows.radixJoinedRow.domain false w args ∧ laidMetH Tryd.prog laids w) ∧ sizedMet enc Tryd.prog Tryd.f4 (OpenSpec.ofChange Rows.radixJoinedSpec) false w args)
      (Rows.radixJoinedSpec.post enc Tryd.prog Tryd.f4 false true false false) := by
  refine wrapped started (by kernel_rfl) Tryd.func4
    (ChangeSpec.witness_shaped (enc := enc) (C := Tryd.checked) (os := os) (X := fun w _ => laidMetH Tryd.prog laids w) false (World.laidAll Tryd.prog os laids) #[.slice none 0 0, .bool false] 8 (World.laidAll_os _ _ _)
      (World.shaped_of_ZipB (by kernel_rfl) (by kernel_rfl)) (by kernel_rfl) (by kernel_rfl) (by kernel_rfl)
      (by rw [MakeChecks.laidMetH_plain _ _ _ (by kernel_rfl)]; exact laidMet_laidAll _ (by kernel_rfl) (by kernel_rfl))) ?_
  intro W base args ds gs before hval0 hW hsh
  have hval : ∀ (j : Nat) t v, Tryd.f4.params[j]? = some t → args[j]? = some v → Value.okWide Tryd.prog W .any base t v := hval0
  have hW' := hW
  obtain ⟨p, q, hA0, hV, rfl, hfz, hnd⟩ := hW
  have hA : DataW.TrodAll enc Tryd.prog W 0 (fun _ => true) true Tryd.f4.params.toList args.toList ds p := hA0
  rw [Tryd.params4] at hA hval
  obtain ⟨v0, vs0, d0, ds0, p0, q0, hargs, rfl, rfl, h0, r0⟩ := trodAll_cons hA
  obtain ⟨v1, vs1, d1, ds1, p1, q1, rfl, rfl, rfl, h1, r1⟩ := trodAll_cons r0
  obtain ⟨rfl, rfl, rfl⟩ := trodAll_nil r1
  obtain rfl : args = #[v0, v1] := by cases args; simp_all
  obtain ⟨rfl, rfl⟩ := trodVars_none hV
  obtain ⟨a0, len0, cap0, rfl⟩ := okWide_slice Tryd.underlying24 (hval 0 24 v0 rfl rfl)
  have k0 := h0
  have lt0 : ∀ x ∈ p0, x.block < W.heap.size := by obtain ⟨m, hm⟩ := k0; exact DataW.trod_lt m _ _ _ hm
  obtain ⟨fuel, hf⟩ := h0
  obtain ⟨xs, w0, hnm, hz⟩ := row_of_strings hf
  obtain ⟨a1, rfl, rfl, rfl⟩ := open_bool Tryd.underlying4 (hval 1 4 v1 rfl rfl) h1
  clear hA0 hval0
  obtain ⟨m, hm⟩ := most_len hsh
  refine (walk a0 len0 cap0 xs a1 m W w0 hm hnm hz).mono fun e W' ⟨he, bel⟩ => ?_
  subst he
  exact ⟨_, rfl, _, _, _, [], _, [], hW', trodAll_mk1 (shut_bool Tryd.underlying4 _), (trodAll_cons_mk (Below.trod laidOut (by kernel_rfl) (of_decide_eq_true (by kernel_rfl)) k0 bel lt0) (trodAll_cons_mk (shut_bool Tryd.underlying4 _) trodAll_mk0)), rfl, bel.frame _, fun h => by cases h⟩

theorem over : Rows.radixJoinedRow.holds Tryd.pinned (OpenSpec.ofChange Rows.radixJoinedSpec) :=
  OpenClaim.holds_of_wide 4 Tryd.f4 rfl rfl rfl rfl rfl rfl rfl ⟨rfl, rfl, rfl, rfl, rfl⟩ rfl rfl rfl rfl rfl (by kernel_rfl) Tryd.func4 (by kernel_rfl)
    (of_decide_eq_true (by kernel_rfl)) (by unfold Func.isWrapper; first | (rw [if_pos (by decide +kernel)]; kernel_rfl) | (rw [if_neg (by decide +kernel)]; exact ⟨rfl, rfl⟩))
    (fun os started H enc _ => lifted os started H enc)

theorem row_proved : Rows.RadixJoinedSaid := over

theorem proved : Rows.RadixJoinedCardSaid :=
  Claim7.holds_tied_plain_at .later [] [.data, .pinned] true (true, "7a19b0be02ae1ae00d8c708cca88237deed5637b75f053ed5a1b09a7c63425d0") false
    row_proved (fun _ h => by cases h) (by kernel_rfl) (fun _ h => by cases h) radixJoined_row_tie rfl ⟨rfl, rfl⟩ (by kernel_rfl) rfl
    (fun f fn hf hfn => by
      obtain rfl : f = 4 := Option.some.inj ((show Tryd.prog.funcNamed "lanyard/lanyardlaw02.RadixJoined" = some 4 by kernel_rfl).symm.trans hf) |>.symm
      obtain rfl : fn = Tryd.f4 := (Option.some.inj (Tryd.func4.symm.trans hfn)).symm
      exact ⟨by kernel_rfl, fun j t ht => by
        rw [Tryd.params4] at ht
        have hm : t ∈ [24, 4] := by simpa using Array.mem_of_getElem? ht
        have hall : ([24, 4].all fun u => !Tryd.prog.wantsStandIn u) = true := by kernel_rfl
        exact (show Tryd.prog.wantsStandIn t = false by simpa using List.all_eq_true.1 hall t hm)⟩)
    (by kernel_rfl)
#print axioms proved
end Go.Proofs.YtmmcmiljnmbfcaaDoor.radixJoined
