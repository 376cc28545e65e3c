/-
  The walk of radix.Encode, for stage 2 (radix): its answer is the text of the bytes; it changes nothing that was there.
-/
import Derived.Test.YtmmcmiljnmbfcaaDoorEnc
import Derived.Laws.MakeOwn
import Derived.Laws.ShiftsVarLaws
import Derived.Lib.MinMax
namespace Go.Proofs.YtmmcmiljnmbfcaaDoor
open Go.RowKit

theorem Tryd.infoByte : (Tryd.prog.info? 5).map (fun i => (i.zero, i.size, i.bytes)) = some (some (.int .u8 0), 1, 1) := by kernel_rfl

/-- The world behind Encode's first statement. -/
def encStart (w : World) : World := (w.alloc (.cells alphaCells 40)).alloc (.cells alphaCells 40)
theorem encStart_size (w : World) : (encStart w).heap.size = w.heap.size + 2 := by simp [encStart]
theorem encStart_below (w : World) : Below w.heap.size w (encStart w) := ((Below.refl _ _).alloc (Nat.le_refl _) _).alloc (by simp) _
theorem encStart_cell (w : World) (v : Nat) (h : v < 64) : (encStart w).cell? ⟨w.heap.size + 1, v, none⟩ = some (.int .u8 (sg v)) := by
  have e : (encStart w).heap[w.heap.size + 1]? = some (.cells alphaCells 40 (0, 0)) := by
    have := heap_alloc_new (w.alloc (.cells alphaCells 40)) (.cells alphaCells 40)
    simpa [encStart] using this
  simp only [World.cell?, e]
  exact alpha_at v h

theorem char_store (w : World) : (storeCells ⟨w.heap.size + 1, 0, none⟩ alphaCells.toList 0).run Tryd.prog ((w.alloc (.cells alphaCells 40)).alloc (.cells (zeroCells 64) 40)) = .ok () (encStart w) := by
  have := run_storeCells_new (P := Tryd.prog) (w.alloc (.cells alphaCells 40)) 40 (zeroCells 64) alphaCells Tryd.size40 (by kernel_rfl) (by kernel_rfl)
  simpa [encStart] using this

theorem make_bytes (n : Nat) (hn : n ≤ 1000000) (W : World) : (Instr.makeSlice 29 (.int .i64 0) (.int .i64 (n : Int))).run Tryd.prog W = .ok (.slice (some ⟨W.heap.size, 0, none⟩) 0 n) (W.alloc (.cells (madeCells #[.int .u8 0] n) 5)) := by
  obtain ⟨i0, hi5, hz0, hz1, hz2⟩ := info_parts Tryd.infoByte
  have hr := run_make (P := Tryd.prog) W 29 5 i0 (.int .u8 0) Tryd.underlying29 hi5 hz0 .i64 .i64 0 n (by omega) (by omega) (by rw [hz2]; omega) (by omega)
  rw [hz1] at hr
  simpa [Value.cells] using hr

/-- The group that is cut out of the bytes. -/
theorem row_cut {w : World} {b off n : Nat} {zs : List Int} (h : Row w (some ⟨b, off, none⟩) n zs) (k m : Nat) (hk : 3 * k < n) (hm : m = min 3 (n - 3 * k)) : Row w (some ⟨b, off + 3 * k, none⟩) m (grpAt zs k) := by
  have hl := h.1
  refine ⟨by simp [grpAt]; omega, fun x hx => h.2.1 x (List.mem_of_mem_drop (List.mem_of_mem_take hx)), fun _ => ?_⟩
  obtain ⟨b', off', e, hlt, hc⟩ := h.2.2 (by omega)
  simp only [Option.some.injEq, Addr.mk.injEq, and_true] at e
  obtain ⟨rfl, rfl⟩ := e
  refine ⟨b, off + 3 * k, rfl, hlt, fun i hi => ?_⟩
  rw [Nat.add_assoc, hc _ (by omega), grpAt, List.getElem?_take, if_pos (by omega), List.getElem?_drop]

/-- The letters of a group of m bytes with the bits N, as far as they are laid. -/
def letters (N : Int) (m j : Nat) : List Int := [grp N m 0, grp N m 1, grp N m 2, grp N m 3].take j
theorem letters_all {G : List Int} {m : Nat} (h : G.length = m) : letters (bitsN G) m 4 = enc3 G := by subst h; rfl
theorem letters_next (N : Int) (m j : Nat) (h : j < 4) : letters N m (j + 1) = letters N m j ++ [grp N m j] := by
  rcases j with _ | _ | _ | _ | j
  all_goals first | rfl | omega
theorem letters_length (N : Int) (m j : Nat) (h : j ≤ 4) : (letters N m j).length = j := by simp [letters]; omega
theorem bitsN_range {G : List Int} (h : ∀ x ∈ G, 0 ≤ x ∧ x ≤ 255) : 0 ≤ bitsN G ∧ bitsN G < 16777216 := by
  have k : ∀ i : Nat, 0 ≤ G[i]?.getD 0 ∧ G[i]?.getD 0 ≤ 255 := fun i => by
    rcases Nat.lt_or_ge i G.length with hl | hl
    · rw [List.getElem?_eq_getElem hl]
      exact h _ (List.getElem_mem hl)
    · rw [List.getElem?_eq_none hl]; simp
  have := k 0
  have := k 1
  have := k 2
  unfold bitsN
  omega

/-- A group's letter stands in the alphabet. -/
theorem letter_cell {w wr : World} {V : Value} {L : List Int} (h : Out (encStart w) wr V L) (v : Int) (h0 : 0 ≤ v) (h1 : v < 64) : wr.cell? ⟨w.heap.size + 1, v.toNat, none⟩ = some (.int .u8 (sgZ v)) :=
  (h.2.cell (p := ⟨w.heap.size + 1, v.toNat, none⟩) (by rw [encStart_size]; show w.heap.size + 1 < _; omega)).trans (encStart_cell w v.toNat (by omega))

theorem and63 (x : Int) (h0 : 0 ≤ x) (h1 : x < 4294967296) : bits .and .u32 x 63 = x % 64 :=
  bits_mask .u32 32 (by decide) wraps_u32 6 (by decide) x h0 h1

set_option maxHeartbeats 1000000 in
theorem enc_any (a : Option Addr) (n ca : Nat) (zs : List Int) (w : World) (hx : Row w a n zs) (hn : n ≤ 10000) (hc : n ≤ ca) :
    Calls Tryd.prog 12 #[.slice a n ca] w fun e w' => e = .returned (.string (strOfNums (encZ zs))) ∧ Below w.heap.size w w' := by
  obtain ⟨i0, hi5, hz0, hz1, hz2⟩ := info_parts Tryd.infoByte
  have I5 := Lib.hid hi5
  have Z0 := Lib.hid hz0
  have Z1 := Lib.hid hz1
  have Z2 := Lib.hid hz2
  clear hi5 hz0 hz1 hz2
  have HX := Lib.hid hx
  clear hx
  have hz := (zero_of_info Tryd.info40).1
  have hs := char_store w
  have hsz := alpha_size
  have hmk := make_bytes ((n + 2) / 3 * 4) (by omega)
  have e2 : (((n + 2) / 3 * 4 : Nat) : Int) = ((n : Int) + 2) / 3 * 4 := by omega
  rw [e2] at hmk
  clear e2
  go_enter Tryd.func12, Tryd.ntmps12
  go_wp2_with fail
  refine (alpha_any w).mono ?_
  rintro e w1 ⟨rfl, rfl⟩
  go_wp2
  have HS := Lib.hid (Out.made (W0 := encStart w) ((n + 2) / 3 * 4) (by omega))
  clear hmk hs hz hsz
  go_loopw [4, 5] (fun V i wr => ∃ k : Nat, 3 * k ≤ n + 2 ∧ i = .int .i64 (3 * (k : Int)) ∧ Out (encStart w) wr V (encZ (zs.take (3 * k)))) (fun _ i _ => n + 3 - (intOf i).toNat)
  case atStart => exact ⟨0, by omega, rfl, by simpa [encZ] using HS.out⟩
  case round =>
    obtain ⟨k, hk, rfl, hout⟩ := hrel
    have HO := Lib.hid hout
    clear hout HS
    by_cases hlt : 3 * k < n
    · obtain ⟨b1, o1, rfl, hb1, _⟩ := HX.out.2.2 (by omega)
      obtain ⟨m, hm⟩ : ∃ m, m = min 3 (n - 3 * k) := ⟨_, rfl⟩
      have hbw : Below w.heap.size w wr := (encStart_below w).trans (HO.out.2.mono (by rw [encStart_size]; omega))
      have RG := Lib.hid (row_cut (HX.out.below hbw) k m hlt hm)
      have hmin : min (3 * (k : Int) + 3) (n : Int) = 3 * (k : Int) + (m : Int) := by omega
      have hnat : (3 * (k : Int) + (m : Int)).toNat - 3 * k = m := by omega
      have hm3 : m ≤ 3 := by omega
      have hm1 : 1 ≤ m := by omega
      have hkm : 3 * k + m ≤ n := by omega
      clear hm
      go_wp2_with fail
      refine (bits_any _ _ _ _ _ RG.out hm3).mono ?_
      rintro e w2 ⟨rfl, hb2⟩
      have HO2 := Lib.hid (HO.out.below hb2)
      have ST := Lib.hid (encZ_take (zs := zs) (k := k) (by rw [HX.out.1]; exact hlt))
      have hlen := encZ_length _ (zs.take (3 * k)) (Nat.le_refl _)
      rw [List.length_take] at hlen
      have LA := Lib.hid (letters_all RG.out.1)
      have hN := bitsN_range RG.out.2.1
      replace hlen := Lib.hid hlen
      generalize encZ (zs.take (3 * k)) = L at HO HO2 ST hlen
      generalize bitsN (grpAt zs k) = N at LA hN ⊢
      clear HO RG hb2 hbw
      go_wp2
      go_loopw [4, 32] (fun V i wr => ∃ j : Nat, j ≤ 4 ∧ i = .int .i64 (j : Int) ∧ Out (encStart w) wr V (L ++ letters N m j)) (fun _ i _ => 4 - (intOf i).toNat)
      case atStart => exact ⟨0, by omega, rfl, by simpa [letters] using HO2.out⟩
      case round =>
        obtain ⟨j, hj, rfl, hout⟩ := hrel
        have HJ := Lib.hid hout
        clear hout HO2
        by_cases hj4 : j < 4
        · have hml : (L ++ letters N m j).length ≤ 50000 := by rw [List.length_append, letters_length N m j hj]; have := hlen.out; omega
          have LN : Hid (L ++ letters N m (j + 1) = (L ++ letters N m j) ++ [grp N m j]) := by rw [letters_next N m j hj4, List.append_assoc]; exact rfl
          generalize L ++ letters N m j = M at HJ hml LN
          by_cases hpad : m < j
          · have hg : Hid (grp N m j = 61) := by simp [Hid, grp, hpad]
            have hpz : (m : Int) < (j : Int) := by omega
            go_wp2_with (at_builtin; refine wpList_append_own _ rfl _ _ 29 rfl (encStart w).heap.size 5 i0 (.int .u8 0) 1 1 Tryd.underlying29 I5.out Z0.out Z1.out Z2.out rfl (by decide) _ _ _ rfl (HJ.out.1.alloc _) ⟨wr.heap.size, 0, none⟩ 1 1 [.int .u8 61] rfl rfl (cell_one_new _ _ _) (by simp [Value.oneCell']) ?c3 ?c4 ?c5 ?_)
            case c3 => unfold maxLen; omega
            case c4 => omega
            case c5 => have := HJ.out.2.size; simp; omega
            intro V' w1 hown' hgrow _
            have HN := Lib.hid (HJ.out.app hown' hgrow)
            clear hown' hgrow HJ
            go_wp2
            go_roundw
            case rel => exact ⟨_, hj4, by go_num, by rw [LN.out, hg.out]; exact HN.out⟩
            case measure => simp [intOf] <;> omega
          · have hg : Hid (grp N m j = sgZ (N / 2 ^ (18 - 6 * j) % 64)) := by simp [Hid, grp, hpad]
            rcases j with _ | _ | _ | _ | j
            · have hcell := letter_cell HJ.out ((N / 262144) % 64) (by omega) (by omega)
              have ha := and63 (N / 262144) (by omega) (by omega)
              have hpz : ¬ ((m : Int) < 0) := by omega
              go_wp2_with (at_builtin; refine wpList_append_own _ rfl _ _ 29 rfl (encStart w).heap.size 5 i0 (.int .u8 0) 1 1 Tryd.underlying29 I5.out Z0.out Z1.out Z2.out rfl (by decide) _ _ _ rfl (HJ.out.1.alloc _) ⟨wr.heap.size, 0, none⟩ 1 1 [.int .u8 (sgZ ((N / 262144) % 64))] rfl rfl (cell_one_new _ _ _) (by simp [Value.oneCell']) ?c3 ?c4 ?c5 ?_)
              case c3 => unfold maxLen; omega
              case c4 => omega
              case c5 => have := HJ.out.2.size; simp; omega
              intro V' w1 hown' hgrow _
              have HN := Lib.hid (HJ.out.app hown' hgrow)
              clear hown' hgrow HJ
              go_wp2
              go_roundw
              case rel => exact ⟨_, hj4, by go_num, by rw [LN.out, hg.out]; exact HN.out⟩
              case measure => simp [intOf] <;> omega
            · have hcell := letter_cell HJ.out ((N / 4096) % 64) (by omega) (by omega)
              have ha := and63 (N / 4096) (by omega) (by omega)
              have hpz : ¬ ((m : Int) < 1) := by omega
              go_wp2_with (at_builtin; refine wpList_append_own _ rfl _ _ 29 rfl (encStart w).heap.size 5 i0 (.int .u8 0) 1 1 Tryd.underlying29 I5.out Z0.out Z1.out Z2.out rfl (by decide) _ _ _ rfl (HJ.out.1.alloc _) ⟨wr.heap.size, 0, none⟩ 1 1 [.int .u8 (sgZ ((N / 4096) % 64))] rfl rfl (cell_one_new _ _ _) (by simp [Value.oneCell']) ?c3 ?c4 ?c5 ?_)
              case c3 => unfold maxLen; omega
              case c4 => omega
              case c5 => have := HJ.out.2.size; simp; omega
              intro V' w1 hown' hgrow _
              have HN := Lib.hid (HJ.out.app hown' hgrow)
              clear hown' hgrow HJ
              go_wp2
              go_roundw
              case rel => exact ⟨_, hj4, by go_num, by rw [LN.out, hg.out]; exact HN.out⟩
              case measure => simp [intOf] <;> omega
            · have hcell := letter_cell HJ.out ((N / 64) % 64) (by omega) (by omega)
              have ha := and63 (N / 64) (by omega) (by omega)
              have hpz : ¬ ((m : Int) < 2) := by omega
              go_wp2_with (at_builtin; refine wpList_append_own _ rfl _ _ 29 rfl (encStart w).heap.size 5 i0 (.int .u8 0) 1 1 Tryd.underlying29 I5.out Z0.out Z1.out Z2.out rfl (by decide) _ _ _ rfl (HJ.out.1.alloc _) ⟨wr.heap.size, 0, none⟩ 1 1 [.int .u8 (sgZ ((N / 64) % 64))] rfl rfl (cell_one_new _ _ _) (by simp [Value.oneCell']) ?c3 ?c4 ?c5 ?_)
              case c3 => unfold maxLen; omega
              case c4 => omega
              case c5 => have := HJ.out.2.size; simp; omega
              intro V' w1 hown' hgrow _
              have HN := Lib.hid (HJ.out.app hown' hgrow)
              clear hown' hgrow HJ
              go_wp2
              go_roundw
              case rel => exact ⟨_, hj4, by go_num, by rw [LN.out, hg.out]; exact HN.out⟩
              case measure => simp [intOf] <;> omega
            · have hcell := letter_cell HJ.out (N % 64) (by omega) (by omega)
              have ha := and63 N (by omega) (by omega)
              have hpz : ¬ ((m : Int) < 3) := by omega
              go_wp2_with (at_builtin; refine wpList_append_own _ rfl _ _ 29 rfl (encStart w).heap.size 5 i0 (.int .u8 0) 1 1 Tryd.underlying29 I5.out Z0.out Z1.out Z2.out rfl (by decide) _ _ _ rfl (HJ.out.1.alloc _) ⟨wr.heap.size, 0, none⟩ 1 1 [.int .u8 (sgZ (N % 64))] rfl rfl (cell_one_new _ _ _) (by simp [Value.oneCell']) ?c3 ?c4 ?c5 ?_)
              case c3 => unfold maxLen; omega
              case c4 => omega
              case c5 => have := HJ.out.2.size; simp; omega
              intro V' w1 hown' hgrow _
              have HN := Lib.hid (HJ.out.app hown' hgrow)
              clear hown' hgrow HJ
              go_wp2
              go_roundw
              case rel => exact ⟨_, hj4, by go_num, by rw [LN.out, hg.out]; simpa using HN.out⟩
              case measure => simp [intOf] <;> omega
            · omega
        · obtain rfl : j = 4 := by omega
          have HF : Hid (Out (encStart w) wr u4 (encZ (zs.take (3 * (k + 1))))) := by rw [ST.out, ← LA.out]; exact HJ.out
          clear HJ ST LA hlen
          go_wp2
          go_roundw
          case rel => exact ⟨k + 1, by omega, by go_num, HF.out⟩
          case measure => simp [intOf]; omega
    · have hall : zs.take (3 * k) = zs := List.take_of_length_le (by rw [HX.out.1]; omega)
      rw [hall] at HO
      obtain ⟨A, C, rfl, hrow⟩ := HO.out.row (encZ_byte _ zs (Nat.le_refl _))
      have hconv := hrow.conv (cap := C) (P := Tryd.prog) 29 9 5 Tryd.underlying29 Tryd.underlying5 Tryd.underlying9
      have hbel := (encStart_below w).trans (HO.out.2.mono (by rw [encStart_size]; omega))
      clear hrow HO hall
      have HB := Lib.hid hbel
      clear hbel
      go_wp2
      go_ret
      exact ⟨rfl, HB.out⟩

end Go.Proofs.YtmmcmiljnmbfcaaDoor
