/-
  The walk of radix.Decode, for stage 2 (radix).
-/
import Derived.Test.YtmmcmiljnmbfcaaDoorDec
import Derived.Test.YtmmcmiljnmbfcaaDoorEncWalk
import Derived.Test.YtmmcmiljnmbfcaaDoorValsWalk
import Derived.Laws.MakeOwn
import Derived.Laws.ShiftsVarLaws
import Derived.Lib.MinMax
namespace Go.Proofs.YtmmcmiljnmbfcaaDoor
open Go.RowKit

/-- Decode's answer. -/
def decS (l : List Int) : Option (List Int) := if l.length % 4 = 0 then decT (l.take (l.length - pads l)) else none

def GivesD (w : World) (r : Option (List Int)) (e : Ending) (w' : World) : Prop :=
  ∃ a c, e = .returned (.tuple #[.slice a (r.getD []).length c, .bool r.isSome]) ∧ Row w' a (r.getD []).length (r.getD []) ∧ (r.getD []).length ≤ c ∧ Below w.heap.size w w'

/-- The world behind Decode's first statements. -/
def decStart (w : World) : World := w.alloc (.cells (tabOf vl) 36)
theorem decStart_size (w : World) : (decStart w).heap.size = w.heap.size + 1 := by simp [decStart]
theorem decStart_below (w : World) : Below w.heap.size w (decStart w) := (Below.refl _ _).alloc (Nat.le_refl _) _
theorem decStart_cell {w wr : World} {V : Value} {L : List Int} (h : Out (decStart w) wr V L) (c : Int) (h0 : 0 ≤ c) (h1 : c ≤ 255) : wr.cell? ⟨w.heap.size, c.toNat, none⟩ = some (.int .u8 (vlZ c)) := by
  refine (h.2.cell (p := ⟨w.heap.size, c.toNat, none⟩) (by rw [decStart_size]; show w.heap.size < _; omega)).trans ?_
  have e : (decStart w).heap[w.heap.size]? = some (.cells (tabOf vl) 36 (0, 0)) := heap_alloc_new _ _
  simp only [World.cell?, e]
  exact tabOf_at vl _ (by omega)

/-- Where the outer loop stands. -/
def DecRel (w1 wr : World) (V : Value) (l : List Int) (k : Nat) (D : List Int) : Prop :=
  decT l = (decT (l.drop (4 * k))).map (fun r => D ++ r) ∧ Out (decStart w1) wr V D ∧ D.length ≤ 3 * k ∧ ∀ x ∈ D, 0 ≤ x ∧ x ≤ 255

theorem DecRel.start {w1 wr : World} {V : Value} {l : List Int} (h : Out (decStart w1) wr V []) : DecRel w1 wr V l 0 [] := by
  refine ⟨?_, h, by simp, by simp⟩
  cases h : decT l <;> simp [h]

/-- The letters of a group have numbers: what is known of its bits. -/
theorem acc_facts {t : List Int} {j : Nat} (h : ∀ i, i < j → vlZ (t[i]?.getD 0) < 64) (hj : j ≤ 4) : 0 ≤ acc t j ∧ acc t j < 16777216 ∧ acc t j % 2 ^ (24 - 6 * j) = 0 := by
  have v0 := (vlZ_range (t[0]?.getD 0)).1
  have v1 := (vlZ_range (t[1]?.getD 0)).1
  have v2 := (vlZ_range (t[2]?.getD 0)).1
  have v3 := (vlZ_range (t[3]?.getD 0)).1
  have h0 := h 0
  have h1 := h 1
  have h2 := h 2
  have h3 := h 3
  rcases j with _ | _ | _ | _ | _ | j
  · simp [acc]
  · simp only [acc]; omega
  · simp only [acc]; omega
  · simp only [acc]; omega
  · simp only [acc]; omega
  · omega

theorem or_at {A v : Int} (j : Nat) (hj : j < 4) (a0 : 0 ≤ A) (a1 : A < 16777216) (am : A % 2 ^ (24 - 6 * j) = 0) (v0 : 0 ≤ v) (v1 : v < 64) : bits .or .u32 A (v * 2 ^ (18 - 6 * j)) = A + v * 2 ^ (18 - 6 * j) := by
  rcases j with _ | _ | _ | _ | j
  · exact bits_join .u32 32 (by decide) wraps_u32 24 _ _ (by omega) (by omega) (by omega) (by omega) (by omega) (by omega)
  · exact bits_join .u32 32 (by decide) wraps_u32 18 _ _ (by omega) (by omega) (by omega) (by omega) (by omega) (by omega)
  · exact bits_join .u32 32 (by decide) wraps_u32 12 _ _ (by omega) (by omega) (by omega) (by omega) (by omega) (by omega)
  · exact bits_join .u32 32 (by decide) wraps_u32 6 _ _ (by omega) (by omega) (by omega) (by omega) (by omega) (by omega)
  · omega

theorem badT_false {t : List Int} (h : ∀ i, i < t.length → vlZ (t[i]?.getD 0) < 64) : badT t = false := by
  unfold badT
  rw [List.any_eq_false]
  intro x hx
  obtain ⟨i, hi, rfl⟩ := List.getElem_of_mem hx
  have := h i hi
  rw [List.getElem?_eq_getElem hi] at this
  simp at this ⊢
  omega
theorem badT_true {t : List Int} {j : Nat} (hj : j < t.length) (h : vlZ (t[j]?.getD 0) = 64) : badT t = true := by
  unfold badT
  rw [List.any_eq_true]
  refine ⟨t[j], List.getElem_mem hj, ?_⟩
  rw [List.getElem?_eq_getElem hj] at h
  simpa using h

theorem DecRel.bad {w1 wr : World} {V : Value} {l : List Int} {k : Nat} {D : List Int} (h : DecRel w1 wr V l k D) (hk : 4 * k < l.length) (hg : grpD ((l.drop (4 * k)).take 4) = none) : decT l = none := by
  rw [h.1, decT_step hk, hg]; rfl

/-- 24 bits, moved by q bytes, as a uint32. -/
def sh (N : Int) (q : Nat) : Int := N * 256 ^ q % 4294967296

theorem nil_gives {w w' : World} {r : Option (List Int)} (hr : r = none) (hb : Below w.heap.size w w') : GivesD w r (.returned (.tuple #[.slice none 0 0, .bool false])) w' := by
  subst hr
  exact ⟨none, 0, rfl, Row.nil _ _, Nat.le_refl _, hb⟩

def gb (N : Int) (q : Nat) : List Int := (List.range q).map (byteOf N)

theorem gb_length (N : Int) (q : Nat) : (gb N q).length = q := by simp [gb]
theorem gb_next (N : Int) (q : Nat) : gb N (q + 1) = gb N q ++ [byteOf N q] := by simp [gb, List.range_succ]
theorem sh_zero {N : Int} (h0 : 0 ≤ N) (h1 : N < 16777216) : sh N 0 = N := by
  unfold sh
  rw [Int.pow_zero, Int.mul_one]
  omega
theorem sh_range (N : Int) (q : Nat) : 0 ≤ sh N q ∧ sh N q < 4294967296 := by
  unfold sh
  generalize N * 256 ^ q = x
  omega
theorem sh_facts {N : Int} {q : Nat} (h0 : 0 ≤ N) (h1 : N < 16777216) (hq : q < 3) : byteOf N q = sh N q / 65536 % 256 ∧ sh N (q + 1) = sh N q * 256 % 4294967296 := by
  unfold sh byteOf
  rcases q with _ | _ | _ | q
  · simp only [Int.pow_zero, Nat.zero_add, Nat.sub_zero]; omega
  · simp only [Nat.zero_add]; omega
  · simp only [Nat.zero_add]; omega
  · omega

theorem gb_byte (N : Int) (q : Nat) : ∀ x ∈ gb N q, 0 ≤ x ∧ x ≤ 255 := by
  intro x hx
  obtain ⟨i, _, rfl⟩ := List.mem_map.1 hx
  unfold byteOf
  omega
theorem sh_mod (N : Int) (q : Nat) : sh N q % 16777216 = N * 256 ^ q % 16777216 := by
  unfold sh
  generalize N * 256 ^ q = x
  omega
theorem mask24 {x : Int} (h0 : 0 ≤ x) (h1 : x < 4294967296) : bits .and .u32 x 16777215 = x % 16777216 :=
  bits_mask .u32 32 (by decide) wraps_u32 24 (by decide) x h0 h1
theorem own_cap {w : World} {base n cap m : Nat} {a : Option Addr} {vs : List Value} (h : w.ownsRow base 5 1 (.slice a n cap) m vs) : n ≤ cap := by
  rcases h.2 with ⟨e, _⟩ | ⟨g, cap', cur, e, h1, h2, h3⟩
  · injection e with _ e1 e2
    omega
  · injection e with e0 e1 e2
    omega
theorem DecRel.next {w1 wr w' : World} {V V' : Value} {l : List Int} {k : Nat} {D g : List Int} (h : DecRel w1 wr V l k D) (hk : 4 * k < l.length) (hg : grpD ((l.drop (4 * k)).take 4) = some g) (ho : Out (decStart w1) w' V' (D ++ g)) (hb : ∀ x ∈ g, 0 ≤ x ∧ x ≤ 255) (hl : g.length ≤ 3) : DecRel w1 w' V' l (k + 1) (D ++ g) := by
  refine ⟨?_, ho, by rw [List.length_append]; have := h.2.2.1; omega, fun x hx => ?_⟩
  · rw [h.1, decT_step hk, hg]
    cases decT (l.drop (4 * (k + 1))) <;> simp
  · rcases List.mem_append.1 hx with hx | hx
    · exact h.2.2.2 x hx
    · exact hb x hx

theorem grp_text {T : ByteArray} {k m : Nat} (hkm : 4 * k + m ≤ T.size) (hlt : 4 * k < T.size) (hmin : min (4 * (k : Int) + 4) (T.size : Int) = 4 * (k : Int) + (m : Int)) : numsOf (T.extract (4 * k) (4 * k + m)) = ((numsOf T).drop (4 * k)).take 4 := by
  have hl := numsOf_length T
  rw [nums_extract, show 4 * k + m - 4 * k = m by omega]
  rcases (show m = 4 ∨ 4 * k + m = T.size ∧ m ≤ 4 by omega) with rfl | ⟨h, h4⟩
  · rfl
  · rw [List.take_of_length_le (by rw [List.length_drop]; omega), List.take_of_length_le (by rw [List.length_drop]; omega)]

set_option maxRecDepth 4000 in
set_option maxHeartbeats 2000000 in
theorem dec_any (s : ByteArray) (w : World) (hs : s.size ≤ 20000) : Calls Tryd.prog 11 #[.string s] w (GivesD w (decS (numsOf s))) := by
  obtain ⟨i0, hi5, hz0, hz1, hz2⟩ := info_parts Tryd.infoByte
  have I5 := Lib.hid hi5
  have Z0 := Lib.hid hz0
  have Z1 := Lib.hid hz1
  have Z2 := Lib.hid hz2
  clear hi5 hz0 hz1 hz2
  have HP := Lib.hid (pads_le s)
  have hz := (zero_of_info Tryd.info36).1
  by_cases h4 : s.size % 4 = 0
  · have DS : Hid (decS (numsOf s) = decT (numsOf (s.extract 0 (s.size - pads (numsOf s))))) := by
      rw [decS, numsOf_length, if_pos h4, nums_extract]; exact rfl
    rw [DS.out]
    clear DS
    have t4 : (((s.size : Int) % 4) != 0) = false := by simp; omega
    have hT1 : (s.extract 0 (s.size - pads (numsOf s))).size ≤ 20000 := by rw [ByteArray.size_extract]; omega
    have hmk := make_bytes (s.size / 4 * 3) (by omega)
    have e2 : ((s.size / 4 * 3 : Nat) : Int) = (s.size : Int) / 4 * 3 := by omega
    rw [e2] at hmk
    clear e2 h4
    have PA := Lib.hid (fun W => pad_any s W hs)
    generalize s.extract 0 (s.size - pads (numsOf s)) = T at hT1 PA ⊢
    have NL := Lib.hid (numsOf_length T)
    go_enter Tryd.func11, Tryd.ntmps11
    go_wp2_with fail
    refine (vals_any w).mono ?_
    rintro e w1 ⟨rfl, hb1⟩
    have HB1 := Lib.hid hb1
    clear hb1
    go_wp2_with (refine wpList_store_rowTo rfl 36 (.tmp 4) (.tmp 16) rfl rfl w1.heap.size (tabOf vl) rfl rfl 36 (zeroCells 256) (heap_alloc_new _ _) (Tryd.size36 _) (by rw [tabOf_size]; rfl) (tabOf_one _) ?_)
    rw [World.setRow_alloc_new]
    refine (PA.out _).mono ?_
    rintro e w2 ⟨rfl, rfl⟩
    go_wp2
    clear hz PA
    have HS := Lib.hid (Out.made (W0 := decStart w1) (s.size / 4 * 3) (by omega))
    clear hmk
    go_loopw [6, 7] (fun V i wr => ∃ k : Nat, 4 * k ≤ T.size + 3 ∧ i = .int .i64 (4 * (k : Int)) ∧ ∃ D, DecRel w1 wr V (numsOf T) k D) (fun _ i _ => T.size + 4 - (intOf i).toNat)
    case atStart => exact ⟨0, by omega, rfl, [], DecRel.start (by have := HS.out; rw [decStart_size] at this; exact this)⟩
    case round =>
      obtain ⟨k, hk, rfl, D, hrel⟩ := hrel
      have HR := Lib.hid hrel
      clear hrel HS
      by_cases hlt : 4 * k < T.size
      · obtain ⟨m, hm⟩ : ∃ m, m = min 4 (T.size - 4 * k) := ⟨_, rfl⟩
        have hmin : min (4 * (k : Int) + 4) (T.size : Int) = 4 * (k : Int) + (m : Int) := by omega
        have hnat : (4 * (k : Int) + (m : Int)).toNat - 4 * k = m := by omega
        have hm4 : m ≤ 4 := by omega
        have hm1 : 1 ≤ m := by omega
        have hkm : 4 * k + m ≤ T.size := by omega
        have GN := Lib.hid (grp_text hkm hlt hmin)
        have GS := Lib.hid (numsOf_length (T.extract (4 * k) (4 * k + m)))
        have GZ : (T.extract (4 * k) (4 * k + m)).size = m := by rw [ByteArray.size_extract]; omega
        clear hm
        go_wp2
        generalize T.extract (4 * k) (4 * k + m) = G at GN GS GZ ⊢
        subst GZ
        go_loop [9, 40] (fun x i => ∃ j : Nat, j ≤ G.size ∧ i = .int .i64 (j : Int) ∧ x = .int .u32 (acc (numsOf G) j) ∧ ∀ i, i < j → vlZ ((numsOf G)[i]?.getD 0) < 64) (fun _ i => G.size - (intOf i).toNat)
        case atStart => exact ⟨0, by omega, rfl, rfl, fun i hi => by omega⟩
        case round =>
          obtain ⟨j, hj, rfl, rfl, hall⟩ := hrel
          have AF := acc_facts hall (by omega)
          have HA := Lib.hid hall
          clear hall
          by_cases hjm : j < G.size
          · have hb := nth_range G j
            have hcell := decStart_cell HR.out.2.1 (nth G j) hb.1 hb.2
            have hi := str_at G j hjm (j : Int) rfl
            have hv := vlZ_range (nth G j)
            have HV : Hid (nth G j = (numsOf G)[j]?.getD 0) := rfl
            have AN : Hid (acc (numsOf G) (j + 1) = acc (numsOf G) j + vlZ (nth G j) * 2 ^ (18 - 6 * j)) := rfl
            generalize acc (numsOf G) j = A at AF AN ⊢
            by_cases hbad : vlZ (nth G j) = 64
            · have BT : Hid (badT (numsOf G) = true) := badT_true (by rw [GS.out]; exact hjm) (by rw [← HV.out]; exact hbad)
              have DN : Hid (decT (numsOf T) = none) := HR.out.bad (by rw [NL.out]; omega) (by rw [← GN.out, grpD, if_pos BT.out])
              rw [hbad] at hcell
              clear BT AN HV hv hbad
              generalize nth G j = c at hb hcell hi
              go_wp2
              go_ret2
              exact nil_gives DN.out (HB1.out.trans (((decStart_below w1).trans (HR.out.2.1.2.mono (by rw [decStart_size]; omega))).mono HB1.out.size))
            · have hv6 : vlZ (nth G j) < 64 := by omega
              clear hbad
              have HV6 : Hid (∀ i, i < j + 1 → vlZ ((numsOf G)[i]?.getD 0) < 64) := by
                intro i hi'
                rcases Nat.lt_or_ge i j with h | h
                · exact HA.out i h
                · obtain rfl : i = j := by omega
                  rw [← HV.out]; exact hv6
              clear HV HA
              have ha := or_at j (by omega) AF.1 AF.2.1 AF.2.2 hv.1 hv6
              generalize vlZ (nth G j) = v at hv hv6 ha AN hcell
              have hv64 : (v == 64) = false := by simp; omega
              generalize nth G j = c at hb hcell hi
              obtain ⟨AF0, AF1, AF2⟩ := AF
              have AF2' := Lib.hid AF2
              clear AF2
              have HI : Hid (∀ W, (Instr.index 9 (.string G) (.int .i64 (j : Int))).run Tryd.prog W = .ok (.int .u8 c) W) := hi
              clear hi
              rcases j with _ | _ | _ | _ | j
              · have hi : ∀ W, (Instr.index 9 (.string G) (.int .i64 0)).run Tryd.prog W = .ok (.int .u8 c) W := HI.out
                clear HI
                go_wp2
                go_round
                case rel => exact ⟨1, by omega, by go_num, by rw [AN.out, ← ha]; rfl, HV6.out⟩
                case measure => simp [intOf]; omega
              · have hi : ∀ W, (Instr.index 9 (.string G) (.int .i64 1)).run Tryd.prog W = .ok (.int .u8 c) W := HI.out
                clear HI
                go_wp2
                go_round
                case rel => exact ⟨2, by omega, by go_num, by rw [AN.out, ← ha]; rfl, HV6.out⟩
                case measure => simp [intOf]; omega
              · have hi : ∀ W, (Instr.index 9 (.string G) (.int .i64 2)).run Tryd.prog W = .ok (.int .u8 c) W := HI.out
                clear HI
                go_wp2
                go_round
                case rel => exact ⟨3, by omega, by go_num, by rw [AN.out, ← ha]; rfl, HV6.out⟩
                case measure => simp [intOf]; omega
              · have hi : ∀ W, (Instr.index 9 (.string G) (.int .i64 3)).run Tryd.prog W = .ok (.int .u8 c) W := HI.out
                clear HI
                go_wp2
                go_round
                case rel => exact ⟨4, by omega, by go_num, by rw [AN.out, ← ha]; simp, HV6.out⟩
                case measure => simp [intOf]; omega
              · omega
          · obtain rfl : j = G.size := by omega
            have NB := Lib.hid (badT_false (t := numsOf G) (fun i hi => HA.out i (by rw [← GS.out]; exact hi)))
            have GD : Hid (grpD (numsOf G) = if acc (numsOf G) G.size * 256 ^ (G.size - 1) % 16777216 = 0 then some (gb (acc (numsOf G) G.size) (G.size - 1)) else none) := by
              have e := GS.out
              have b := NB.out
              unfold Hid
              rw [grpD, if_neg (by rw [b]; simp), e, grpBytes, e]; rfl
            clear NB HA
            generalize acc (numsOf G) G.size = N at AF GD ⊢
            obtain ⟨AF0, AF1, AF2⟩ := AF
            clear AF2
            go_wp2
            go_loopw [6, 9, 62] (fun V x i wr => ∃ q : Nat, q + 1 ≤ G.size ∧ i = .int .i64 (q : Int) ∧ x = .int .u32 (sh N q) ∧ Out (decStart w1) wr V (D ++ gb N q)) (fun _ _ i _ => G.size - (intOf i).toNat)
            case atStart => exact ⟨0, by omega, rfl, by rw [sh_zero AF0 AF1], by simpa [gb] using HR.out.2.1⟩
            case round =>
              obtain ⟨q, hq, rfl, rfl, hout⟩ := hrel
              have HO := Lib.hid hout
              clear hout
              have SB := sh_range N q
              by_cases hq1 : q + 1 < G.size
              · have SF := Lib.hid (sh_facts (q := q) AF0 AF1 (by omega))
                have hml : (D ++ gb N q).length ≤ 50000 := by rw [List.length_append, gb_length]; have := HR.out.2.2.1; omega
                have LN : Hid (D ++ gb N (q + 1) = (D ++ gb N q) ++ [byteOf N q]) := by rw [gb_next, List.append_assoc]; exact rfl
                generalize D ++ gb N q = M at HO hml LN
                generalize sh N q = X at SB SF ⊢
                have tq : decide ((q : Int) < (G.size : Int) - 1) = true := by simp; omega
                go_wp2_with (at_builtin; refine wpList_append_own _ rfl _ _ 29 rfl (decStart w1).heap.size 5 i0 (.int .u8 0) 1 1 Tryd.underlying29 I5.out Z0.out Z1.out Z2.out rfl (by decide) _ _ _ rfl (HO.out.1.alloc _) ⟨wr.heap.size, 0, none⟩ 1 1 [.int .u8 (X / 65536 % 256)] rfl rfl (cell_one_new _ _ _) (by simp [Value.oneCell']) ?c3 ?c4 ?c5 ?_)
                case c3 => unfold maxLen; omega
                case c4 => omega
                case c5 => have := HO.out.2.size; simp; omega
                intro V' w3 hown' hgrow _
                have HN := Lib.hid (HO.out.app hown' hgrow)
                clear hown' hgrow HO
                go_wp2
                go_roundw
                case rel => exact ⟨q + 1, by omega, by go_num, by rw [SF.out.2], by rw [LN.out, SF.out.1]; exact HN.out⟩
                case measure => simp [intOf]; omega
              · have tq : decide ((q : Int) < (G.size : Int) - 1) = false := by simp; omega
                have MK := mask24 SB.1 SB.2
                have SM := Lib.hid (sh_mod N q)
                have GD' : Hid (grpD (numsOf G) = if sh N q % 16777216 = 0 then some (gb N q) else none) := by
                  have := GD.out
                  rw [show G.size - 1 = q by omega, ← SM.out] at this
                  exact this
                clear GD SM
                by_cases h0 : sh N q % 16777216 = 0
                · have t0 : ((sh N q % 16777216) != 0) = false := by simp [h0]
                  have HN : Hid (DecRel w1 wr u6 (numsOf T) (k + 1) (D ++ gb N q)) := HR.out.next (by rw [NL.out]; omega) (by rw [← GN.out, GD'.out, if_pos h0]) HO.out (gb_byte N q) (by rw [gb_length]; omega)
                  clear h0 GD' HO
                  generalize sh N q = X at SB t0 MK ⊢
                  go_wp2
                  go_roundw
                  case rel => exact ⟨k + 1, by omega, by go_num, _, HN.out⟩
                  case measure => simp [intOf]; omega
                · have t0 : ((sh N q % 16777216) != 0) = true := by simpa using h0
                  have DN : Hid (decT (numsOf T) = none) := HR.out.bad (by rw [NL.out]; omega) (by rw [← GN.out, GD'.out, if_neg h0])
                  clear h0 GD'
                  generalize sh N q = X at SB t0 MK ⊢
                  go_wp2
                  go_ret2
                  exact nil_gives DN.out (HB1.out.trans (((decStart_below w1).trans (HO.out.2.mono (by rw [decStart_size]; omega))).mono HB1.out.size))
      · have ED : Hid (decT (numsOf T) = some D) := by
          have := HR.out.1
          rw [List.drop_of_length_le (by rw [NL.out]; omega), decT] at this
          exact (by simpa using this : decT (numsOf T) = some D)
        obtain ⟨A, C, rfl, hrow⟩ := HR.out.2.1.row HR.out.2.2.2
        have hcap : D.length ≤ C := own_cap HR.out.2.1.1
        have hbel := HB1.out.trans (((decStart_below w1).trans (HR.out.2.1.2.mono (by rw [decStart_size]; omega))).mono HB1.out.size)
        have HF : Hid (GivesD w (decT (numsOf T)) (.returned (.tuple #[.slice A D.length C, .bool true])) wr) := by
          rw [ED.out]
          exact ⟨A, C, rfl, hrow, hcap, hbel⟩
        clear hrow HR ED hbel hcap
        go_wp2
        go_ret2
        exact HF.out
  · have DN : Hid (decS (numsOf s) = none) := by rw [decS, numsOf_length, if_neg h4]; exact rfl
    have t4 : (((s.size : Int) % 4) != 0) = true := by simp; omega
    clear h4
    go_enter Tryd.func11, Tryd.ntmps11
    go_wp2
    go_ret2
    exact nil_gives DN.out (Below.refl _ _)
end Go.Proofs.YtmmcmiljnmbfcaaDoor
