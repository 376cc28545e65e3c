/-
  Merged texts: AdU, AdD, AdE, AdV, AdX, AdY.
-/
import Derived.Test.YtpekpgmdjpcpiaaDoorGrC
import Derived.Test.YtpekpgmdjpcpiaaDoorGrA
namespace Go.Proofs.YtpekpgmdjpcpiaaDoor
open Go.RowKit
set_option linter.unusedVariables false

/-- Two results: a whole array that lies in memory, and a value. -/
theorem results_row_val {P : Program} {fn : Func} {p u : Tmp} {ty : TypeId} (h : fn.results = #[.cell p ty, .tmp u]) (tmps : Array Value) (w : World) (g : Nat) (t : TypeId) (cs : Array Value) (fr : Nat × Nat) (d : TypeDesc)
    (hp : tmps.getD p undef = .pointer (some ⟨g, 0, none⟩)) (hg : w.heap[g]? = some (.cells cs t fr))
    (hu : P.underlying ty = some d) (hd : (match d with | .struct _ | .array _ _ => true | _ => false) = true) (hi : (P.info? ty).map (·.size) = some cs.size) :
    (results fn tmps).run P w = .ok (.tuple #[.agg cs, tmps.getD u undef]) w := by
  rw [results_cell_tmp h, hp]
  simp [asAddr, run_loadVar_row w g t ty cs fr d hg hu hd hi, Result.andThen]
theorem zeroA_cells : (acells zeroA).toArray = Array.replicate 16 (.int .u8 0) := rfl
theorem acells_one (A : List Int) : (acells A).toArray.all (·.oneCell') = true := by
  refine all_oneCell_toArray fun u hu => ?_
  obtain ⟨_, _, rfl⟩ := List.mem_map.1 hu
  rfl
theorem ss_take (ss : List ByteArray) {k : Nat} (h : k < ss.length) : ss.take (k + 1) = ss.take k ++ [ss[k]?.getD ByteArray.empty] := by
  rw [List.take_succ_eq_append_getElem h, List.getElem?_eq_getElem h]
  rfl
/-- What loop 1 holds. -/
def ValsAt (ss : List ByteArray) (k : Nat) (L : List Int) : Prop := L = (ss.take k).map partV ∧ ∀ s ∈ ss.take k, 0 ≤ numV s
theorem vals_start (ss : List ByteArray) : ValsAt ss 0 [] := ⟨by simp, by simp⟩
theorem vals_len {ss : List ByteArray} {k : Nat} {L : List Int} (h : ValsAt ss k L) (hk : k ≤ ss.length) : L.length = k := by
  rw [h.1, List.length_map, List.length_take]
  omega
theorem vals_more {ss : List ByteArray} {k : Nat} {L : List Int} (h : ValsAt ss k L) (hk : k < ss.length) {s : ByteArray} (hs : ss[k]?.getD ByteArray.empty = s) (h0 : 0 ≤ numV s) : ValsAt ss (k + 1) (L ++ [partV s]) := by
  unfold ValsAt
  rw [ss_take ss hk, hs]
  refine ⟨by rw [h.1, List.map_append]; rfl, fun t ht => ?_⟩
  rcases List.mem_append.1 ht with ht | ht
  · exact h.2 t ht
  · simp at ht
    subst ht
    exact h0
theorem vals_no {ss : List ByteArray} {k : Nat} (hk : k < ss.length) {s : ByteArray} (hs : ss[k]?.getD ByteArray.empty = s) (h0 : ¬ 0 ≤ numV s) : groupsZ ss = none := by
  unfold groupsZ
  rw [if_neg]
  intro h
  refine h0 (h s ?_)
  rw [← hs, List.getElem?_eq_getElem hk]
  exact List.getElem_mem _
theorem vals_all {ss : List ByteArray} {k : Nat} {L : List Int} (h : ValsAt ss k L) (hk : ss.length ≤ k) : groupsZ ss = fillZ L 0 false zeroA := by
  have e := h.1
  have f := h.2
  rw [List.take_of_length_le hk] at e f
  unfold groupsZ
  rw [if_pos f, e]

theorem gives_nogroups {ss : List ByteArray} {w w' : World} {A : List Int} (h : groupsZ ss = none) (hA : Sixteen A) (hb : Below w.heap.size w w') : GivesGroups ss w (.returned (.tuple #[.agg (acells A).toArray, .bool false])) w' :=
  ⟨A, hA, by rw [h]; rfl, (fun B e => by rw [h] at e; cases e), hb⟩
theorem gives_groups {ss : List ByteArray} {w w' : World} {A : List Int} (h : groupsZ ss = some A) (hA : Sixteen A) (hb : Below w.heap.size w w') : GivesGroups ss w (.returned (.tuple #[.agg (acells A).toArray, .bool true])) w' :=
  ⟨A, hA, by rw [h]; rfl, (fun B e => by rw [h] at e; exact Option.some.inj e), hb⟩
/-- A row of numbers behind a place of memory. -/
def IRowA (lo : Nat) (w : World) (a : Option Addr) (n : Nat) (L : List Int) : Prop :=
  L.length = n ∧ (0 < n → ∃ b off, a = some ⟨b, off, none⟩ ∧ lo ≤ b ∧ b < w.heap.size ∧ ∀ i, i < n → w.cell? ⟨b, off + i, none⟩ = some (.int .i64 (L[i]?.getD 0)))
theorem IOut.rowA {W0 wr : World} {V : Value} {L : List Int} (h : IOut W0 wr V L) : ∃ a c, V = .slice a L.length c ∧ IRowA W0.heap.size wr a L.length L := by
  obtain ⟨a, c, rfl, hr⟩ := h.row
  refine ⟨a, c, rfl, hr.1, fun hn => ?_⟩
  obtain ⟨b, off, rfl, hb, hc⟩ := hr.2 hn
  refine ⟨b, off, rfl, ?_, hb, hc⟩
  rcases h.1.2 with ⟨e, _⟩ | ⟨g, cap, cur, e, h1, _⟩
  · cases e
  · injection e with e1
    injection e1 with e2
    injection e2 with e3
    omega
theorem IRowA.keep {lo : Nat} {w w' : World} {a : Option Addr} {n : Nat} {L : List Int} (h : IRowA lo w a n L) (hs : w.heap.size ≤ w'.heap.size) (hc : ∀ b o, lo ≤ b → w'.cell? ⟨b, o, none⟩ = w.cell? ⟨b, o, none⟩) : IRowA lo w' a n L := by
  refine ⟨h.1, fun hn => ?_⟩
  obtain ⟨b, off, e, hlo, hlt, hcc⟩ := h.2 hn
  exact ⟨b, off, e, hlo, Nat.lt_of_lt_of_le hlt hs, fun i hi => (hc b _ hlo).trans (hcc i hi)⟩
theorem IRowA.set {lo : Nat} {w : World} {a : Option Addr} {n : Nat} {L : List Int} (h : IRowA lo w a n L) {g : Nat} (hg : g < lo) (i : Nat) (v : Value) : IRowA lo (w.setCell ⟨g, i, none⟩ v) a n L :=
  h.keep (Below.setCell (Below.refl 0 w) (p := ⟨g, i, none⟩) (Nat.zero_le _) v).size (fun b o hb => World.cell?_setCell_other _ _ _ _ (fun e => by injection e with e1; omega))
theorem IRowA.drop {lo : Nat} {w : World} {a : Option Addr} {n : Nat} {L : List Int} (h : IRowA lo w a n L) (k : Nat) (hk : k < n) : L.drop k = L[k]?.getD 0 :: L.drop (k + 1) := by
  rw [List.drop_eq_getElem_cons (by rw [h.1]; exact hk), List.getElem?_eq_getElem (by rw [h.1]; exact hk)]
  rfl
theorem vals_rng {ss : List ByteArray} {k : Nat} {L : List Int} (h : ValsAt ss k L) : ∀ x ∈ L, -1 ≤ x ∧ x ≤ 65535 := by
  intro x hx
  rw [h.1] at hx
  obtain ⟨s, _, rfl⟩ := List.mem_map.1 hx
  exact partV_rng s
theorem acells_set (A : List Int) (j : Nat) (x : Int) : (acells A).toArray.setIfInBounds j (.int .u8 x) = (acells (A.set j x)).toArray := by
  apply Array.ext'
  rw [Array.toList_setIfInBounds]
  unfold acells
  rw [List.map_set]
theorem str_none {s : ByteArray} (h : s.size = 0) : s = ByteArray.empty := by
  obtain ⟨⟨l⟩⟩ := s
  have : l = [] := List.eq_nil_of_length_eq_zero h
  subst this
  rfl

set_option maxHeartbeats 2000000 in
set_option maxRecDepth 10000 in
theorem rgroups_any (ss : List ByteArray) (a0 : Option Addr) (n c0 : Nat) (w : World) (hr : SRow w a0 n ss) (hn : n ≤ 6000) (hz : ∀ s ∈ ss, s.size ≤ 1000) : Calls Tryd.prog 29 #[.slice a0 n c0] w (GivesGroups ss w) := by
  have R0 := Lib.hid hr
  have HL := Lib.hid hr.1
  have HZ := Lib.hid hz
  clear hr hz
  have bR : Blk ((w.alloc (.cells (acells zeroA).toArray 22)).alloc (.cells (acells zeroA).toArray 22)) w.heap.size 22 (acells zeroA).toArray := Blk.alloc (Blk.new w 22 (acells zeroA).toArray) _
  have bA := Blk.new (w.alloc (.cells (acells zeroA).toArray 22)) 22 (acells zeroA).toArray
  have BR := Lib.hid bR
  have hg1 : (w.alloc (.cells (acells zeroA).toArray 22)).heap.size = w.heap.size + 1 := by simp
  rw [hg1] at bA
  have BA := Lib.hid bA
  clear hg1
  have BW := Lib.hid (Below.step (box_below w (.cells (acells zeroA).toArray 22)) (box_below _ (.cells (acells zeroA).toArray 22)))
  have SA := Lib.hid (Tryd.sizeA zeroA_ok.1)
  clear bR bA
  go_enter Tryd.func29, Tryd.ntmps29
  go_wp2_with (first
    | (refine Great.wpList_allocTo rfl (some 2) rfl (.pointer (some ⟨w.heap.size, 0, none⟩)) (.cells (acells zeroA).toArray 22) rfl ?_)
    | (refine Great.wpList_allocTo rfl (some 4) rfl (.pointer (some ⟨(w.alloc (.cells (acells zeroA).toArray 22)).heap.size, 0, none⟩)) (.cells (acells zeroA).toArray 22) rfl ?_))
  generalize (w.alloc (.cells (acells zeroA).toArray 22)).alloc (.cells (acells zeroA).toArray 22) = w2 at *
  go_loopg [5, 6] n (fun gk V i wr => ∃ (k : Nat) (L : List Int), gk + k = n ∧ i = .int .i64 (k : Int) ∧ IOut w2 wr V L ∧ ValsAt ss k L)
  case atStart => exact ⟨0, [], by omega, rfl, IOut.start w2, vals_start ss⟩
  case round =>
    obtain ⟨k, L, hgk, rfl, hout, hva⟩ := hrel
    have HO := Lib.hid hout
    have VA := Lib.hid hva
    have LL := vals_len hva (by rw [HL.out]; omega)
    clear hout hva
    by_cases hlt : k < n
    · obtain ⟨g, rfl⟩ : ∃ g, gk = g + 1 := ⟨gk - 1, by omega⟩
      have hlt' : k < ss.length := by rw [HL.out]; exact hlt
      obtain ⟨b0, off, rfl, hb0, hcell⟩ := (R0.out.below (Below.step BW.out HO.out.2)).2 (by omega)
      have ck := hcell k hlt
      obtain ⟨s, hs⟩ : ∃ s, ss[k]?.getD ByteArray.empty = s := ⟨_, rfl⟩
      have hsz : s.size ≤ 1000 := by
        rw [← hs, List.getElem?_eq_getElem hlt']
        exact HZ.out _ (List.getElem_mem _)
      have CN := Lib.hid (fun W => rnumber_any s 16 65535 W hsz (by omega) (by omega) (by omega) (by omega))
      have VR := numV_rng s
      have VM := Lib.hid (fun h => vals_more VA.out hlt' hs h)
      have VN := Lib.hid (fun h => vals_no hlt' hs h)
      have SZ : Hid (0 ≤ numV s → s.size = 0 → partV s = -1) := Lib.hid (fun _ h => by unfold partV; rw [if_pos h])
      have SY : Hid (s.size ≠ 0 → partV s = numV s) := Lib.hid (fun h => by unfold partV; rw [if_neg h])
      have NV : numG 16 65535 0 (numsOf s) = numV s := rfl
      rw [NV] at CN
      rw [hs] at ck
      clear hcell hs NV VA
      generalize numV s = x at *
      go_wp2_with fail
      refine (CN.out _).mono ?_
      rintro e w3 ⟨rfl, rfl⟩
      by_cases h0 : 0 ≤ x
      · have t1 : decide (x < 0) = false := decide_eq_false (by omega)
        by_cases h1 : s.size = 0
        · have VA2 := Lib.hid (VM.out h0)
          rw [SZ.out h0 h1] at VA2
          obtain rfl := str_none h1
          clear CN VM VN SZ SY h1
          go_wp2_with (at_builtin; refine iout_append (W0 := w2) (L := L) rfl _ _ rfl rfl HO.out rfl (by omega) ?_; intro V2 w4 ho2; have HO2 := Lib.hid ho2; clear ho2)
          go_roundg g
          case measure => omega
          case rel => exact ⟨k + 1, _, by omega, by go_num, HO2.out, VA2.out⟩
        · have VA2 := Lib.hid (VM.out h0)
          rw [SY.out h1] at VA2
          have t2 : s.toList.isEmpty = false := by
            rw [Lib.toList_data]
            rcases hd : s.data.toList with _ | ⟨y, ys⟩
            · exact absurd (show s.data.size = 0 by rw [← Array.length_toList, hd]; rfl) h1
            · rfl
          clear CN VM VN SZ SY
          go_wp2_with (at_builtin; refine iout_append (W0 := w2) (L := L) rfl _ _ rfl rfl HO.out rfl (by omega) ?_; intro V2 w4 ho2; have HO2 := Lib.hid ho2; clear ho2)
          go_roundg g
          case measure => omega
          case rel => exact ⟨k + 1, _, by omega, by go_num, HO2.out, VA2.out⟩
      · have t1 : decide (x < 0) = true := decide_eq_true (by omega)
        have NO := Lib.hid (VN.out (by omega))
        have A3 := Lib.hid (BA.out.below HO.out.2 BA.out.lt)
        have R3 := Lib.hid (BR.out.below HO.out.2 BR.out.lt)
        have B3 := Lib.hid (Below.step BW.out HO.out.2)
        clear CN VM VN SZ SY
        go_wp2_with (first
          | (refine wpList_load_row rfl 22 (.tmp 4) rfl (w.heap.size + 1) rfl 22 (acells zeroA).toArray (0, 0) (.array 16 5) A3.out Tryd.underlying22 rfl SA.out ?_)
          | (refine wpList_store_rowTo rfl 22 (.tmp 2) (.tmp 26) rfl rfl w.heap.size (acells zeroA).toArray rfl rfl 22 (acells zeroA).toArray R3.out SA.out rfl (acells_one _) ?_))
        exact bodyPost_ret (results_row_val (p := 2) (u := 3) rfl _ _ w.heap.size 22 (acells zeroA).toArray (0, 0) (.array 16 5) rfl (setRow_heap _ _ _ _ 22 _ R3.out) Tryd.underlying22 rfl SA.out) rfl (gives_nogroups NO.out zeroA_ok (below_setRow B3.out (Nat.le_refl _) _))
    · have GA := Lib.hid (vals_all VA.out (by rw [HL.out]; omega))
      have VR := Lib.hid (vals_rng VA.out)
      obtain ⟨aL, cL, rfl, hrow⟩ := HO.out.rowA
      have A3 := Lib.hid (BA.out.below HO.out.2 BA.out.lt)
      have R3 := Lib.hid (BR.out.below HO.out.2 BR.out.lt)
      have B3 := Lib.hid (Below.step BW.out HO.out.2)
      have RW := Lib.hid hrow
      have lo2 : w.heap.size + 1 < w2.heap.size := BA.out.lt
      clear VA HO hrow BA BR BW R0 HZ
      have LN : L.length ≤ 6000 := by omega
      generalize hln : L.length = m at *
      have HLN := Lib.hid hln
      clear hln
      subst LL
      go_wp2_with fail
      go_loopg [8, 9, 10] m (fun gk kV fV iV wr => ∃ (i q : Nat) (f : Bool) (A1 : List Int), gk + i = m ∧ iV = .int .i64 (i : Int) ∧ kV = .int .i64 (q : Int) ∧ fV = .bool f ∧ q ≤ 8 ∧ Sixteen A1 ∧ groupsZ ss = fillZ (L.drop i) q f A1 ∧ Blk wr w.heap.size 22 (acells zeroA).toArray ∧ Blk wr (w.heap.size + 1) 22 (acells A1).toArray ∧ IRowA w2.heap.size wr aL m L ∧ Below w.heap.size w wr)
      case atStart => exact ⟨0, 0, false, zeroA, by omega, rfl, rfl, rfl, by omega, zeroA_ok, GA.out, R3.out, A3.out, RW.out, B3.out⟩
      case round =>
        obtain ⟨i, q, f, A1, hgi, rfl, rfl, rfl, hq8, h16, hgz, hR, hA, hW, hB⟩ := hrel
        have A16 := Lib.hid h16
        have GZ := Lib.hid hgz
        have R4 := Lib.hid hR
        have A4 := Lib.hid hA
        have W4 := Lib.hid hW
        have B4 := Lib.hid hB
        clear h16 hgz hR hA hW hB GA R3 A3 RW B3
        by_cases hlt2 : i < m
        · obtain ⟨g, rfl⟩ : ∃ g, gk = g + 1 := ⟨gk - 1, by omega⟩
          have D := Lib.hid (W4.out.drop i hlt2)
          obtain ⟨b, off, rfl, hlo, hbl, hcc⟩ := W4.out.2 (by omega)
          have ck := hcc i hlt2
          have VX : -1 ≤ L[i]?.getD 0 ∧ L[i]?.getD 0 ≤ 65535 := by
            rw [List.getElem?_eq_getElem (by rw [HLN.out]; exact hlt2)]
            exact VR.out _ (List.getElem_mem _)
          have HC := Lib.hid hcc
          clear hcc
          generalize L[i]?.getD 0 = x at *
          by_cases h0 : 0 ≤ x
          · have t1 : decide (0 ≤ x) = true := decide_eq_true h0
            by_cases h7 : 7 < q
            · have t2 : decide (7 < q) = true := decide_eq_true h7
              have t2' : decide ((7 : Int) < (q : Int)) = true := decide_eq_true (by omega)
              have NO : Hid (groupsZ ss = none) := Lib.hid (by rw [GZ.out, D.out, fillZ, if_pos h0, if_pos h7])
              have S1 := Lib.hid (Tryd.sizeA A16.out.1)
              have ZE : Hid ((acells zeroA).toArray.size = (acells A1).toArray.size) := Lib.hid (by rw [List.size_toArray, List.size_toArray, acells_len A16.out.1]; rfl)
              clear GZ D
              go_wp2_with (first
                | (refine wpList_load_row rfl 22 (.tmp 4) rfl (w.heap.size + 1) rfl 22 (acells A1).toArray (0, 0) (.array 16 5) A4.out Tryd.underlying22 rfl S1.out ?_)
                | (refine wpList_store_rowTo rfl 22 (.tmp 2) (.tmp 49) rfl rfl w.heap.size (acells A1).toArray rfl rfl 22 (acells zeroA).toArray R4.out S1.out ZE.out (acells_one _) ?_))
              exact bodyPost_ret (results_row_val (p := 2) (u := 3) rfl _ _ w.heap.size 22 (acells A1).toArray (0, 0) (.array 16 5) rfl (setRow_heap _ _ _ _ 22 _ R4.out) Tryd.underlying22 rfl S1.out) rfl (gives_nogroups NO.out A16.out (below_setRow B4.out (Nat.le_refl _) _))
            · have t2 : decide (7 < q) = false := decide_eq_false h7
              have t2' : decide ((7 : Int) < (q : Int)) = false := decide_eq_false (by omega)
              have N : Hid (groupsZ ss = fillZ (L.drop (i + 1)) (q + 1) f ((A1.set (2 * q) (x / 256)).set (2 * q + 1) (x % 256))) := Lib.hid (by rw [GZ.out, D.out, fillZ, if_pos h0, if_neg h7])
              obtain ⟨d, hd⟩ : ∃ d, x / 256 = d := ⟨_, rfl⟩
              obtain ⟨r, hr⟩ : ∃ r, x % 256 = r := ⟨_, rfl⟩
              have k1 : x.tdiv 256 = d := by rw [Int.tdiv_eq_ediv_of_nonneg h0]; exact hd
              have k2 : x.tmod 256 = r := by rw [Int.tmod_eq_emod_of_nonneg h0]; exact hr
              have d0 : 0 ≤ d := by omega
              have d1 : d ≤ 255 := by omega
              have r0 : 0 ≤ r := by omega
              have r1 : r ≤ 255 := by omega
              obtain ⟨j, hj⟩ : ∃ j, 2 * q = j := ⟨_, rfl⟩
              rw [hd, hr, hj] at N
              have k3 : (2 : Int) * (q : Int) = (j : Int) := by omega
              have j14 : j ≤ 14 := by omega
              have k4 : IntKind.i64.wrap (j : Int) = (j : Int) := IntWalk.i64_in _ (by omega)
              have k5 : IntKind.i64.wrap ((j : Int) + 1) = (j : Int) + 1 := IntWalk.i64_in _ (by omega)
              have k6 : IntKind.u8.wrap d = d := IntWalk.u8_in _ (by omega)
              have k7 : IntKind.u8.wrap r = r := IntWalk.u8_in _ (by omega)
              have k8 : IntKind.i64.wrap d = d := IntWalk.i64_in _ (by omega)
              have k9 : IntKind.i64.wrap r = r := IntWalk.i64_in _ (by omega)
              have AS := Lib.hid (sixteen_set (sixteen_set A16.out j d d0 d1) (j + 1) r r0 r1)
              have a16 := A16.out.1
              have f1 := Blk.free A4.out j
              have c1 := (Blk.cell A4.out j).trans (List.getElem?_toArray.trans (acells_at a16 j (by omega)))
              have A5' := Blk.set A4.out j (.int .u8 d)
              rw [acells_set] at A5'
              have c2 := (Blk.cell A5' (j + 1)).trans (List.getElem?_toArray.trans (acells_at (by rw [List.length_set]; exact a16) (j + 1) (by omega)))
              have ck2 := (World.cell?_setCell_other wr ⟨w.heap.size + 1, j, none⟩ ⟨b, off + i, none⟩ (.int .u8 d) (fun e => by injection e with e1; omega)).trans ck
              generalize A1[j]?.getD 0 = y1 at c1
              generalize (A1.set j d)[j + 1]?.getD 0 = y2 at c2
              clear A5'
              have f2 := Blk.free (Blk.set A4.out j (.int .u8 d)) (j + 1)
              have A5 := Blk.set (Blk.set A4.out j (.int .u8 d)) (j + 1) (.int .u8 r)
              rw [acells_set, acells_set] at A5
              have A6 := Lib.hid A5
              have R6 := Lib.hid (Blk.far (Blk.far R4.out (show w.heap.size ≠ w.heap.size + 1 by omega) j (.int .u8 d)) (show w.heap.size ≠ w.heap.size + 1 by omega) (j + 1) (.int .u8 r))
              have W6 := Lib.hid ((W4.out.set lo2 j (.int .u8 d)).set lo2 (j + 1) (.int .u8 r))
              have B6 := Lib.hid (Below.setCell (Below.setCell B4.out (p := ⟨w.heap.size + 1, j, none⟩) (Nat.le_succ _) (.int .u8 d)) (p := ⟨w.heap.size + 1, j + 1, none⟩) (Nat.le_succ _) (.int .u8 r))
              clear GZ D A5
              go_wp2_with fail
              go_roundg g
              case measure => omega
              case rel => exact ⟨i + 1, q + 1, f, _, by omega, by go_num, by go_num, rfl, by omega, AS.out, N.out, R6.out, A6.out, W6.out, B6.out⟩
          · have t1 : decide (0 ≤ x) = false := decide_eq_false h0
            cases f with
            | true =>
              have N : Hid (groupsZ ss = fillZ (L.drop (i + 1)) q true A1) := Lib.hid (by rw [GZ.out, D.out, fillZ, if_neg h0, if_pos rfl])
              clear GZ D
              go_wp2_with fail
              go_roundg g
              case measure => omega
              case rel => exact ⟨i + 1, q, true, A1, by omega, by go_num, rfl, rfl, hq8, A16.out, N.out, R4.out, A4.out, W4.out, B4.out⟩
            | false =>
              have N : Hid (groupsZ ss = fillZ (L.drop (i + 1)) (max (8 - cntN (L.drop i)) q) true A1) := Lib.hid (by rw [GZ.out, D.out, fillZ, if_neg h0, if_neg (by decide)])
              clear GZ D
              go_wp2_with fail
              go_loopg [11, 12] (m - i) (fun hk lV jV wr' => ∃ (j l : Nat), hk + j = m ∧ i ≤ j ∧ jV = .int .i64 (j : Int) ∧ lV = .int .i64 (l : Int) ∧ l + cntN (L.drop j) = cntN (L.drop i) ∧ wr' = wr)
              case atStart => exact ⟨i, 0, by omega, Nat.le_refl _, rfl, rfl, by omega, rfl⟩
              case round =>
                obtain ⟨j, l, hgj, hij, rfl, rfl, hl, rfl⟩ := hrel
                have LC : l ≤ 6000 := by
                  have := cntN_le (L.drop i)
                  rw [List.length_drop, HLN.out] at this
                  omega
                have CL := Lib.hid hl
                clear hl
                have k1 : IntKind.i64.wrap ((l : Int) + 1) = (l : Int) + 1 := IntWalk.i64_in _ (by omega)
                have k2 : IntKind.i64.wrap ((j : Int) + 1) = (j : Int) + 1 := IntWalk.i64_in _ (by omega)
                by_cases hjm : j < m
                · have s0 : decide (j < m) = true := decide_eq_true hjm
                  have s0' : decide ((j : Int) < (m : Int)) = true := decide_eq_true (by omega)
                  have cj := HC.out j hjm
                  have DY := W4.out.drop j hjm
                  generalize L[j]?.getD 0 = y at *
                  have CY : Hid (l + ((if 0 ≤ y then 1 else 0) + cntN (L.drop (j + 1))) = cntN (L.drop i)) := Lib.hid (by rw [← CL.out, DY, cntN])
                  clear DY CL

                  by_cases hy : 0 ≤ y
                  · have s1 : decide (0 ≤ y) = true := decide_eq_true hy
                    have CZ : Hid (l + 1 + cntN (L.drop (j + 1)) = cntN (L.drop i)) := Lib.hid (by rw [← CY.out, if_pos hy]; omega)
                    clear CY
                    go_wp2_with fail
                    go_roundg (gk - 1)
                    case measure => omega
                    case rel => exact ⟨j + 1, l + 1, by omega, by omega, by go_num, by go_num, CZ.out, rfl⟩
                  · have s1 : decide (0 ≤ y) = false := decide_eq_false hy
                    have CZ : Hid (l + cntN (L.drop (j + 1)) = cntN (L.drop i)) := Lib.hid (by rw [← CY.out, if_neg hy]; omega)
                    clear CY
                    go_wp2_with fail
                    go_roundg (gk - 1)
                    case measure => omega
                    case rel => exact ⟨j + 1, l, by omega, by omega, by go_num, rfl, CZ.out, rfl⟩
                · have s0 : decide (j < m) = false := decide_eq_false hjm
                  have s0' : decide ((j : Int) < (m : Int)) = false := decide_eq_false (by omega)
                  have C0 : l = cntN (L.drop i) := by
                    have h1 := CL.out
                    rw [List.drop_eq_nil_of_le (show L.length ≤ j by rw [HLN.out]; omega), cntN] at h1
                    omega
                  obtain ⟨p, hp⟩ : ∃ p, max (8 - l) q = p := ⟨_, rfl⟩
                  have p8 : p ≤ 8 := by omega
                  have k3 : max (8 - (l : Int)) (q : Int) = (p : Int) := by omega
                  have k4 : IntKind.i64.wrap (8 - (l : Int)) = 8 - (l : Int) := IntWalk.i64_in _ (by omega)
                  have N2 : Hid (groupsZ ss = fillZ (L.drop (i + 1)) p true A1) := Lib.hid (by rw [N.out, ← C0, hp])
                  clear CL C0 N HC
                  go_wp2_with fail
                  go_roundg g
                  case measure => omega
                  case rel => exact ⟨i + 1, p, true, A1, by omega, by go_num, rfl, rfl, p8, A16.out, N2.out, R4.out, A4.out, W4.out, B4.out⟩
        · have GZ2 : Hid (groupsZ ss = some A1) := Lib.hid (by rw [GZ.out, List.drop_eq_nil_of_le (by rw [HLN.out]; omega), fillZ])
          have S1 := Lib.hid (Tryd.sizeA A16.out.1)
          have ZE : Hid ((acells zeroA).toArray.size = (acells A1).toArray.size) := Lib.hid (by rw [List.size_toArray, List.size_toArray, acells_len A16.out.1]; rfl)
          clear GZ
          go_wp2_with (first
            | (refine wpList_load_row rfl 22 (.tmp 4) rfl (w.heap.size + 1) rfl 22 (acells A1).toArray (0, 0) (.array 16 5) A4.out Tryd.underlying22 rfl S1.out ?_)
            | (refine wpList_store_rowTo rfl 22 (.tmp 2) (.tmp 90) rfl rfl w.heap.size (acells A1).toArray rfl rfl 22 (acells zeroA).toArray R4.out S1.out ZE.out (acells_one _) ?_))
          exact bodyPost_ret (results_row_val (p := 2) (u := 3) rfl _ _ w.heap.size 22 (acells A1).toArray (0, 0) (.array 16 5) rfl (setRow_heap _ _ _ _ 22 _ R4.out) Tryd.underlying22 rfl S1.out) rfl (gives_groups GZ2.out A16.out (below_setRow B4.out (Nat.le_refl _) _))

end Go.Proofs.YtpekpgmdjpcpiaaDoor

namespace Go.Proofs.YtpekpgmdjpcpiaaDoor
open Go.RowKit
set_option linter.unusedVariables false

/-- The cells of a block before n are kept. -/
def KeepC (g n : Nat) (a b : World) : Prop := ∀ i, i < n → b.cell? ⟨g, i, none⟩ = a.cell? ⟨g, i, none⟩
theorem KeepC.refl (g n : Nat) (w : World) : KeepC g n w w := fun _ _ => rfl
theorem KeepC.trans {g n : Nat} (a b c : World) (h : KeepC g n a b) (k : KeepC g n b c) : KeepC g n a c := fun i hi => (k i hi).trans (h i hi)
theorem KeepC.set (g n k : Nat) (w : World) (v : Value) (h : n ≤ k) : KeepC g n w (w.setCell ⟨g, k, none⟩ v) := fun i hi => World.cell?_setCell_other _ _ _ _ (fun e => by injection e with _ e; omega)
theorem pcells_setL {v : Bool} {A : List Int} {L M : Int} (h : A.length = 16) : (pcells v A L).setIfInBounds 17 (.int .i64 M) = pcells v A M := by
  unfold pcells
  apply Array.ext'
  rw [Array.toList_setIfInBounds]
  show (Value.bool v :: (acells A ++ [.int .i64 L])).set 17 (.int .i64 M) = Value.bool v :: (acells A ++ [.int .i64 M])
  rw [List.set_cons_succ, List.set_append_right _ _ (by rw [acells_len h]; omega), acells_len h]
  rfl
theorem pcells_setA {v : Bool} {A : List Int} {L x : Int} (h : A.length = 16) (q : Nat) (hq : q < 16) : (pcells v A L).setIfInBounds (1 + q) (.int .u8 x) = pcells v (A.set q x) L := by
  unfold pcells
  apply Array.ext'
  rw [Array.toList_setIfInBounds]
  show (Value.bool v :: (acells A ++ [.int .i64 L])).set (1 + q) (.int .u8 x) = Value.bool v :: (acells (A.set q x) ++ [.int .i64 L])
  rw [Nat.add_comm, List.set_cons_succ, List.set_append_left _ _ (by rw [acells_len h]; exact hq)]
  unfold acells
  rw [List.map_set]
theorem PBlk.setL {w : World} {g : Nat} {v : Bool} {A : List Int} {L : Int} (h : PBlk w g v A L) (hA : A.length = 16) (M : Int) : PBlk (w.setCell ⟨g, 17, none⟩ (.int .i64 M)) g v A M := by
  have := Blk.set h 17 (.int .i64 M)
  rwa [pcells_setL hA] at this
theorem PBlk.setA {w : World} {g : Nat} {v : Bool} {A : List Int} {L : Int} (h : PBlk w g v A L) (hA : A.length = 16) (q : Nat) (hq : q < 16) (x : Int) : PBlk (w.setCell ⟨g, 1 + q, none⟩ (.int .u8 x)) g v (A.set q x) L := by
  have := Blk.set h (1 + q) (.int .u8 x)
  rwa [pcells_setA hA q hq] at this

/-- A bit less. -/
theorem cut_bit {A : List Int} (h : Sixteen A) {i : Nat} (hi : i < 128) (hb : bitA A i = 1) : 2 ^ (7 - i % 8) ≤ A[i / 8]?.getD 0 ∧ Sixteen (A.set (i / 8) (A[i / 8]?.getD 0 - 2 ^ (7 - i % 8))) ∧ aN (A.set (i / 8) (A[i / 8]?.getD 0 - 2 ^ (7 - i % 8))) + 2 ^ (127 - i) = aN A := by
  have hq : i / 8 < A.length := by rw [h.1]; omega
  have xr : 0 ≤ A[i / 8]?.getD 0 ∧ A[i / 8]?.getD 0 ≤ 255 := by
    rw [List.getElem?_eq_getElem hq]
    exact h.2 _ (List.getElem_mem _)
  have ps : (0 : Int) < 2 ^ (7 - i % 8) := Int.pow_pos (by decide)
  unfold bitA at hb
  have le : 2 ^ (7 - i % 8) ≤ A[i / 8]?.getD 0 := by
    rcases Int.lt_or_le (A[i / 8]?.getD 0) (2 ^ (7 - i % 8)) with h' | h'
    · rw [Int.ediv_eq_zero_of_lt xr.1 h'] at hb
      simp at hb
    · exact h'
  have as' := aN_set (l := A) (q := i / 8) (v := A[i / 8]?.getD 0 - 2 ^ (7 - i % 8)) hq (by omega) xr.1
  refine ⟨le, ⟨by rw [List.length_set]; exact h.1, fun x hx => ?_⟩, ?_⟩
  · rcases List.mem_or_eq_of_mem_set hx with hx | rfl
    · exact h.2 x hx
    · omega
  · rw [h.1] at as'
    have e : (2 : Nat) ^ (127 - i) = 2 ^ (7 - i % 8) * 256 ^ (16 - 1 - i / 8) := by
      rw [show (256 : Nat) = 2 ^ 8 from rfl, ← Nat.pow_mul, ← Nat.pow_add]
      congr 1
      omega
    have e2 : ((2 ^ (7 - i % 8) : Nat) : Int) = 2 ^ (7 - i % 8) := Int.natCast_pow 2 _
    obtain ⟨z, hz⟩ : ∃ z : Nat, A[i / 8]?.getD 0 = (z : Int) := ⟨(A[i / 8]?.getD 0).toNat, by omega⟩
    rw [hz] at as' le ⊢
    have t : ((z : Int) - 2 ^ (7 - i % 8)).toNat = z - 2 ^ (7 - i % 8) := by omega
    have lz : 2 ^ (7 - i % 8) ≤ z := by omega
    rw [t, Int.toNat_natCast] at as'
    obtain ⟨y, hy⟩ : ∃ y, z = y + 2 ^ (7 - i % 8) := ⟨z - 2 ^ (7 - i % 8), by omega⟩
    rw [hy, Nat.add_sub_cancel, Nat.add_mul, ← e] at as'
    rw [hy]
    omega
/-- What stands in the way: the number whose bits from c to i are taken away. -/
def cutN (A : List Int) (c i : Nat) : Nat := aN A / 2 ^ (128 - c) * 2 ^ (128 - c) + aN A % 2 ^ (128 - i)
theorem cutN_start (A : List Int) (c : Nat) : cutN A c c = aN A := by
  unfold cutN
  rw [Nat.mul_comm]
  exact Nat.div_add_mod _ _
theorem cutN_end (A : List Int) (c : Nat) : cutN A c 128 = aN A / 2 ^ (128 - c) * 2 ^ (128 - c) := by
  unfold cutN
  rw [Nat.sub_self, Nat.pow_zero, Nat.mod_one, Nat.add_zero]
theorem cutN_next (A : List Int) {c i : Nat} (hc : c ≤ i) (hi : i < 128) : cutN A c i = cutN A c (i + 1) + 2 ^ (127 - i) * (aN A / 2 ^ (127 - i) % 2) := by
  unfold cutN
  rw [show 128 - i = (127 - i) + 1 by omega, Nat.mod_pow_succ, show 128 - (i + 1) = 127 - i by omega]
  omega
/-- The bit that is met there is the address's own. -/
theorem cutN_bit (A : List Int) {c i : Nat} (hc : c ≤ i) (hi : i < 128) : cutN A c i / 2 ^ (127 - i) % 2 = aN A / 2 ^ (127 - i) % 2 := by
  have pp : 0 < 2 ^ (127 - i) := Nat.pow_pos (by decide)
  unfold cutN
  have e : 2 ^ (128 - c) = 2 ^ (127 - i) * (2 * 2 ^ (i - c)) := by
    rw [← Nat.pow_succ', ← Nat.pow_add]
    congr 1
    omega
  rw [show 128 - i = (127 - i) + 1 by omega, Nat.mod_pow_succ]
  generalize aN A / 2 ^ (128 - c) = K
  rw [e]
  have e3 : K * (2 ^ (127 - i) * (2 * 2 ^ (i - c))) + (aN A % 2 ^ (127 - i) + 2 ^ (127 - i) * (aN A / 2 ^ (127 - i) % 2)) = 2 ^ (127 - i) * (2 * (2 ^ (i - c) * K) + aN A / 2 ^ (127 - i) % 2) + aN A % 2 ^ (127 - i) := by
    rw [Nat.mul_add, Nat.mul_comm K, Nat.mul_assoc, Nat.mul_assoc 2]
    omega
  rw [e3, Nat.mul_add_div pp, Nat.div_eq_of_lt (Nat.mod_lt _ pp)]
  omega

end Go.Proofs.YtpekpgmdjpcpiaaDoor

namespace Go.Proofs.YtpekpgmdjpcpiaaDoor
open Go.RowKit
set_option linter.unusedVariables false

theorem pcells_one (v : Bool) (A : List Int) (L : Int) : (pcells v A L).all (·.oneCell') = true := by
  unfold pcells
  refine all_oneCell_toArray fun u hu => ?_
  rcases List.mem_cons.1 hu with rfl | hu
  · rfl
  · rcases List.mem_append.1 hu with hu | hu
    · obtain ⟨_, _, rfl⟩ := List.mem_map.1 hu
      rfl
    · simp at hu
      subst hu
      rfl
def ZP : Array Value := pcells false (List.replicate 16 0) 0
set_option maxHeartbeats 2000000 in
set_option maxRecDepth 10000 in
theorem rcut_any (v : Bool) (A : List Int) (L : Int) (w : World) (hA : Sixteen A) (l0 : -9223372036854775808 ≤ L) (l1 : L ≤ 9223372036854775807) :
    Calls Tryd.prog 21 #[.agg (pcells v A L)] w fun e w' => e = .returned (.agg (pcells v (cutA v A L) (cutL v L))) ∧ Below w.heap.size w w' := by
  have BX : Hid (PBlk ((w.alloc (.cells (pcells v A L) 24)).alloc (.cells ZP 24)) w.heap.size v A L) := Lib.hid (Blk.alloc (pbox w v A L) _)
  have bz := Blk.new (w.alloc (.cells (pcells v A L) 24)) 24 ZP
  have BZ := Lib.hid bz
  have HGZ : Hid ((w.alloc (.cells (pcells v A L) 24)).heap.size = w.heap.size + 1) := Lib.hid (by simp)
  have BW := Lib.hid (Below.step (box_below w (.cells (pcells v A L) 24)) (box_below _ (.cells ZP 24)))
  have HA := Lib.hid hA
  have hA16 := hA.1
  have ML := most_le v
  obtain ⟨mL, hmax⟩ : ∃ mL, max L 0 = mL := ⟨_, rfl⟩
  obtain ⟨c, hc⟩ : ∃ c : Nat, cutL v L = (c : Int) := ⟨(cutL v L).toNat, by unfold cutL; omega⟩
  have hmin : min mL (mostZ v) = (c : Int) := by rw [← hmax]; exact hc
  have c128 : c ≤ 128 := by omega
  have CA : Hid (cutA v A L = by16 (cutN A c 128)) := Lib.hid (by unfold cutA; rw [hc, Int.toNat_natCast, cutN_end])
  have CL := Lib.hid hc
  have CM := Lib.hid (fun W => rmost_any v W)
  have cv := BX.out.v
  have cl := BX.out.l hA16
  clear hA bz hc ML
  go_enter Tryd.func21, Tryd.ntmps21
  go_wp2_with (refine Great.wpList_allocTo rfl (some 2) rfl (.pointer (some ⟨(w.alloc (.cells (pcells v A L) 24)).heap.size, 0, none⟩)) (.cells ZP 24) rfl ?_)
  generalize (w.alloc (.cells (pcells v A L) 24)).alloc (.cells ZP 24) = w2 at *
  generalize (w.alloc (.cells (pcells v A L) 24)).heap.size = gz at *
  have m4 : ∀ W, KeepC w.heap.size 17 w2.drew W → W.cell? ⟨w.heap.size, 0, none⟩ = some (.bool v) := fun W hW => (hW 0 (by omega)).trans cv
  have cl' : w2.drew.cell? ⟨w.heap.size, 17, none⟩ = some (.int .i64 L) := cl
  have f17 : w2.drew.frozen? ⟨w.heap.size, 17, none⟩ = false := Blk.free BX.out 17
  generalize mostZ v = mz at *
  refine wp_region_plan (KeepC w.heap.size 17) (KeepC.refl _ _) KeepC.trans (.take 0 (.take 3 (.take 4 (.fork 1 (.take 2 (.sole 5 (.take 6 (.take 7 (.sole 8 .fin))))) 5 (.sole 1 (.take 2 (.take 6 (.take 7 (.sole 8 .fin))))))))) (by kernel_rfl) (by kernel_rfl) rfl (by kernel_rfl) (fun _ _ _ _ _ h => h) ?_
  repeat (refine plan_take _ rfl (by rfl) (fun W hW => by go_simp; first | done | rfl) ?_; simp only [Act.put, List.setIfInBounds_toArray, List.set_cons_zero, List.set_cons_succ])
  refine plan_fork ?_ ?_
  · refine sole_take rfl (by rfl) (fun K1 hK1 => ?_)
    go_simp
    refine hK1 _ _ (KeepC.refl _ _ _) ?_
    clear hK1 K1
    repeat (refine plan_take _ rfl (by rfl) (fun W hW => by go_simp; first | done | rfl) ?_; simp only [Act.put, List.setIfInBounds_toArray, List.set_cons_zero, List.set_cons_succ])
    refine plan_sole (sole_take rfl (by rfl) (fun K1 hK1 => ?_))
    go_simp
    refine (CM.out _).mono ?_
    rintro r w3 ⟨rfl, rfl⟩
    refine hK1 _ _ (KeepC.refl _ _ _) ?_
    clear hK1 K1
    repeat (refine plan_take _ rfl (by rfl) (fun W hW => by go_simp; first | done | rfl) ?_; simp only [Act.put, List.setIfInBounds_toArray, List.set_cons_zero, List.set_cons_succ])
    refine plan_sole (sole_take rfl (by rfl) (fun K1 hK1 => ?_))
    unfold Oper.wp
    go_simp
    refine hK1 _ _ (KeepC.set _ _ _ _ _ (Nat.le_refl _)) ?_
    clear hK1 K1
    refine plan_end ?_
    have X4 : Hid (PBlk (w2.setCell ⟨w.heap.size, 17, none⟩ (.int .i64 (c : Int))).drew w.heap.size v A (c : Int)) := Lib.hid (show PBlk (w2.setCell ⟨w.heap.size, 17, none⟩ (.int .i64 (c : Int))) w.heap.size v A (c : Int) from PBlk.setL BX.out hA16 (c : Int))
    have Z4 : Hid (Blk (w2.setCell ⟨w.heap.size, 17, none⟩ (.int .i64 (c : Int))).drew gz 24 ZP) := Lib.hid (show Blk (w2.setCell ⟨w.heap.size, 17, none⟩ (.int .i64 (c : Int))) gz 24 ZP from Blk.far BZ.out (by have := HGZ.out; omega) 17 _)
    have B4 : Hid (Below w.heap.size w (w2.setCell ⟨w.heap.size, 17, none⟩ (.int .i64 (c : Int))).drew) := Lib.hid (Below.step (Below.setCell BW.out (p := ⟨w.heap.size, 17, none⟩) (Nat.le_refl _) _) (drewN_below _ 1))
    clear BX BZ BW cv cl m4 cl' f17 CM hmin hmax
    generalize (w2.setCell ⟨w.heap.size, 17, none⟩ (.int .i64 (c : Int))).drew = w4 at *
    have cl4 := X4.out.l hA16
    go_wp2_with fail
    go_loopw [3] (fun iV wr => ∃ (i : Nat) (A1 : List Int), iV = .int .i64 (i : Int) ∧ c ≤ i ∧ i ≤ 128 ∧ Sixteen A1 ∧ aN A1 = cutN A c i ∧ PBlk wr w.heap.size v A1 (c : Int) ∧ Blk wr gz 24 ZP ∧ Below w.heap.size w wr) (fun iV _ => (200 - intOf iV).toNat)
    case atStart => exact ⟨c, A, rfl, Nat.le_refl _, c128, HA.out, (cutN_start A c).symm, X4.out, Z4.out, B4.out⟩
    case round =>
      obtain ⟨i, A1, rfl, hi0, hi, h16, hn, hx, hz, hb⟩ := hrel
      have H1 := Lib.hid h16
      have HN1 := Lib.hid hn
      have X5 := Lib.hid hx
      have Z5 := Lib.hid hz
      have B5 := Lib.hid hb
      have a16 := h16.1
      clear h16 hn hx hz hb
      by_cases hlt : i < 128
      · have t0 : decide ((i : Int) < 128) = true := decide_eq_true (by omega)
        have CB := Lib.hid (rbit_any A1 i wr H1.out hlt)
        have BT := bit_two A1 i
        have NX := Lib.hid (cutN_next A hi0 hlt)
        have BI : Hid (bitA A1 i = ((aN A / 2 ^ (127 - i) % 2 : Nat) : Int)) := Lib.hid (by rw [bit_is H1.out hlt, HN1.out, cutN_bit A hi0 hlt])
        have CT := Lib.hid (fun h => cut_bit H1.out hlt h)
        obtain ⟨bi, hbi⟩ : ∃ bi, bitA A1 i = bi := ⟨_, rfl⟩
        rw [hbi] at CB BT BI CT
        clear hbi
        go_wp2_with (refine wpList_load_mid rfl 22 (.tmp 18) rfl w.heap.size 1 rfl (acells A1) (.array 16 5) (X5.out.range a16) Tryd.underlying22 rfl (Tryd.sizeA a16) ?_)
        refine CB.out.mono ?_
        rintro r w6 ⟨rfl, hb6⟩
        have B6 := Lib.hid (Below.step B5.out hb6)
        have X6 := Lib.hid (X5.out.below hb6 X5.out.lt)
        have Z6 := Lib.hid (Z5.out.below hb6 Z5.out.lt)
        clear hb6 CB X5 Z5 B5
        rcases BT with rfl | rfl
        · have NN : Hid (aN A1 = cutN A c (i + 1)) := Lib.hid (by
            have h1 := NX.out
            have h2 := BI.out
            have h3 : aN A / 2 ^ (127 - i) % 2 = 0 := by omega
            rw [h3, Nat.mul_zero, Nat.add_zero] at h1
            rw [HN1.out, h1])
          clear NX BI CT
          go_wp2_with fail
          go_roundw
          case rel => exact ⟨i + 1, A1, by go_num, by omega, by omega, H1.out, NN.out, X6.out, Z6.out, B6.out⟩
          case measure => simp only [intOf]; omega
        · obtain ⟨le, s16, sn⟩ := CT.out rfl
          have NN : Hid (aN (A1.set (i / 8) (A1[i / 8]?.getD 0 - 2 ^ (7 - i % 8))) = cutN A c (i + 1)) := Lib.hid (by
            have h1 := NX.out
            have h2 := BI.out
            have h3 : aN A / 2 ^ (127 - i) % 2 = 1 := by omega
            rw [h3, Nat.mul_one, ← HN1.out] at h1
            omega)
          have SS := Lib.hid s16
          clear NX BI CT s16 sn
          obtain ⟨q, hq⟩ : ∃ q, i / 8 = q := ⟨_, rfl⟩
          have r8 := Nat.mod_lt i (show 0 < 8 by omega)
          obtain ⟨r, hrr⟩ : ∃ r, i % 8 = r := ⟨_, rfl⟩
          obtain ⟨s, hs⟩ : ∃ s, 7 - r = s := ⟨_, rfl⟩
          rw [hq, hrr, hs] at NN SS le
          rw [hrr] at r8
          have q16 : q < 16 := by omega
          have s8 : s < 8 := by omega
          have k3 : (i : Int) / 8 = (q : Int) := by omega
          have k3' : (i : Int).tdiv 8 = (q : Int) := by rw [Int.tdiv_eq_ediv_of_nonneg (by omega)]; exact k3
          have k4 : (i : Int) % 8 = (r : Int) := by omega
          have k4' : (i : Int).tmod 8 = (r : Int) := by rw [Int.tmod_eq_emod_of_nonneg (by omega)]; exact k4
          have k5 : IntKind.i64.wrap (q : Int) = (q : Int) := IntWalk.i64_in _ (by omega)
          have k6 : IntKind.i64.wrap (r : Int) = (r : Int) := IntWalk.i64_in _ (by omega)
          have k9 : (7 : Int) - (r : Int) = (s : Int) := by omega
          have k10 : IntKind.i64.wrap (s : Int) = (s : Int) := IntWalk.i64_in _ (by omega)
          have qI : (q : Int) < 16 := by omega
          have q0 : (0 : Int) ≤ (q : Int) := by omega
          have s0 : (0 : Int) ≤ (s : Int) := by omega
          have zr : 0 ≤ A1[q]?.getD 0 ∧ A1[q]?.getD 0 ≤ 255 := by
            rw [List.getElem?_eq_getElem (by rw [a16]; exact q16)]
            exact H1.out.2 _ (List.getElem_mem _)
          have cz := (Blk.cell X6.out (1 + q)).trans (pcells_a a16 q q16)
          have fz := Blk.free X6.out (1 + q)
          have ST := Lib.hid (fun (W : World) (h : PBlk W w.heap.size v A1 (c : Int)) (x : Int) => PBlk.setA h a16 q q16 x)
          have ps : (0 : Int) < 2 ^ s := Int.pow_pos (by decide)
          generalize A1[q]?.getD 0 = z at *
          have k11 : IntKind.u8.wrap (2 ^ s) = 2 ^ s := IntWalk.u8_in _ (by omega)
          have k12 : IntKind.u8.wrap (z - 2 ^ s) = z - 2 ^ s := IntWalk.u8_in _ (by omega)
          clear hq hrr hs
          go_wp2_with fail
          refine wp_region_ord (fun _ _ => True) (fun _ => trivial) (fun _ _ _ _ _ => trivial) ((0, false) :: (1, false) :: (2, false) :: (3, false) :: (4, false) :: (5, false) :: (7, false) :: (8, false) :: (9, false) :: (10, false) :: (12, false) :: (6, true) :: (11, false) :: (13, false) :: (14, true) :: []) (by kernel_rfl) (by kernel_rfl) rfl (by kernel_rfl) (fun _ _ _ _ _ h => h) ?_
          repeat (refine ord_take _ rfl (by rfl) (fun W hW => by go_simp; first | done | rfl) ?_; simp only [Act.put, List.setIfInBounds_toArray, List.set_cons_zero, List.set_cons_succ])
          have cz' : w6.drew.cell? ⟨w.heap.size, 1 + q, none⟩ = some (.int .u8 z) := cz
          have fz' : w6.drew.frozen? ⟨w.heap.size, 1 + q, none⟩ = false := fz
          refine ord_sole rfl (by rfl) (fun K1 hK1 => ?_)
          go_simp
          refine hK1 _ _ trivial ?_
          clear hK1 K1
          repeat (refine ord_take _ rfl (by rfl) (fun W hW => by go_simp; first | done | rfl) ?_; simp only [Act.put, List.setIfInBounds_toArray, List.set_cons_zero, List.set_cons_succ])
          refine ord_sole rfl (by rfl) (fun K1 hK1 => ?_)
          unfold Oper.wp
          go_simp
          refine hK1 _ _ trivial ?_
          clear hK1 K1 cz cz' fz fz'
          refine ord_end ?_
          have X7 : Hid (PBlk (w6.setCell ⟨w.heap.size, 1 + q, none⟩ (.int .u8 (z - 2 ^ s))).drew w.heap.size v (A1.set q (z - 2 ^ s)) (c : Int)) := Lib.hid (show PBlk (w6.setCell ⟨w.heap.size, 1 + q, none⟩ (.int .u8 (z - 2 ^ s))) w.heap.size v (A1.set q (z - 2 ^ s)) (c : Int) from ST.out w6 X6.out (z - 2 ^ s))
          have Z7 : Hid (Blk (w6.setCell ⟨w.heap.size, 1 + q, none⟩ (.int .u8 (z - 2 ^ s))).drew gz 24 ZP) := Lib.hid (show Blk (w6.setCell ⟨w.heap.size, 1 + q, none⟩ (.int .u8 (z - 2 ^ s))) gz 24 ZP from Blk.far Z6.out (by have := HGZ.out; omega) (1 + q) _)
          have B7 : Hid (Below w.heap.size w (w6.setCell ⟨w.heap.size, 1 + q, none⟩ (.int .u8 (z - 2 ^ s))).drew) := Lib.hid (Below.step (Below.setCell B6.out (p := ⟨w.heap.size, 1 + q, none⟩) (Nat.le_refl _) _) (drewN_below _ 1))
          clear X6 Z6 B6 ST
          generalize (w6.setCell ⟨w.heap.size, 1 + q, none⟩ (.int .u8 (z - 2 ^ s))).drew = w7 at *
          go_wp2_with fail
          go_roundw
          case rel => exact ⟨i + 1, _, by go_num, by omega, by omega, SS.out, NN.out, X7.out, Z7.out, B7.out⟩
          case measure => simp only [intOf]; omega
      · have t0 : decide ((i : Int) < 128) = false := decide_eq_false (by omega)
        obtain rfl : i = 128 := by omega
        have FA : Hid (A1 = cutA v A L) := Lib.hid (by rw [CA.out, ← HN1.out, by16_aN H1.out])
        have ZS := Lib.hid (Tryd.sizeP (v := v) (L := (c : Int)) a16)
        have ZE : Hid (ZP.size = (pcells v A1 (c : Int)).size) := Lib.hid (by rw [pcells_size a16]; rfl)
        have P1 := Lib.hid (pcells_one v A1 (c : Int))
        go_wp2_with (first
          | (refine wpList_load_row rfl 24 (.tmp 1) rfl w.heap.size rfl 24 (pcells v A1 (c : Int)) (0, 0) _ X5.out Tryd.underlying24 rfl ZS.out ?_)
          | (refine wpList_store_rowTo rfl 24 (.tmp 2) (.tmp 37) rfl rfl gz (pcells v A1 (c : Int)) rfl rfl 24 ZP Z5.out ZS.out ZE.out P1.out ?_))
        exact bodyPost_ret (results_cell_row rfl _ _ gz 24 (pcells v A1 (c : Int)) (0, 0) _ rfl (setRow_heap _ _ _ _ 24 _ Z5.out) Tryd.underlying24 rfl ZS.out) rfl ⟨by rw [CL.out, ← FA.out], below_setRow B5.out (by have := HGZ.out; omega) _⟩
  · refine sole_take rfl (by rfl) (fun K1 hK1 => ?_)
    go_simp
    refine (CM.out _).mono ?_
    rintro r w3 ⟨rfl, rfl⟩
    refine hK1 _ _ (KeepC.refl _ _ _) ?_
    clear hK1 K1
    refine plan_sole (sole_take rfl (by rfl) (fun K1 hK1 => ?_))
    go_simp
    refine hK1 _ _ (KeepC.refl _ _ _) ?_
    clear hK1 K1
    repeat (refine plan_take _ rfl (by rfl) (fun W hW => by go_simp; first | done | rfl) ?_; simp only [Act.put, List.setIfInBounds_toArray, List.set_cons_zero, List.set_cons_succ])
    refine plan_sole (sole_take rfl (by rfl) (fun K1 hK1 => ?_))
    unfold Oper.wp
    go_simp
    refine hK1 _ _ (KeepC.set _ _ _ _ _ (Nat.le_refl _)) ?_
    clear hK1 K1
    refine plan_end ?_
    have X4 : Hid (PBlk (w2.setCell ⟨w.heap.size, 17, none⟩ (.int .i64 (c : Int))).drew w.heap.size v A (c : Int)) := Lib.hid (show PBlk (w2.setCell ⟨w.heap.size, 17, none⟩ (.int .i64 (c : Int))) w.heap.size v A (c : Int) from PBlk.setL BX.out hA16 (c : Int))
    have Z4 : Hid (Blk (w2.setCell ⟨w.heap.size, 17, none⟩ (.int .i64 (c : Int))).drew gz 24 ZP) := Lib.hid (show Blk (w2.setCell ⟨w.heap.size, 17, none⟩ (.int .i64 (c : Int))) gz 24 ZP from Blk.far BZ.out (by have := HGZ.out; omega) 17 _)
    have B4 : Hid (Below w.heap.size w (w2.setCell ⟨w.heap.size, 17, none⟩ (.int .i64 (c : Int))).drew) := Lib.hid (Below.step (Below.setCell BW.out (p := ⟨w.heap.size, 17, none⟩) (Nat.le_refl _) _) (drewN_below _ 1))
    clear BX BZ BW cv cl m4 cl' f17 CM hmin hmax
    generalize (w2.setCell ⟨w.heap.size, 17, none⟩ (.int .i64 (c : Int))).drew = w4 at *
    have cl4 := X4.out.l hA16
    go_wp2_with fail
    go_loopw [3] (fun iV wr => ∃ (i : Nat) (A1 : List Int), iV = .int .i64 (i : Int) ∧ c ≤ i ∧ i ≤ 128 ∧ Sixteen A1 ∧ aN A1 = cutN A c i ∧ PBlk wr w.heap.size v A1 (c : Int) ∧ Blk wr gz 24 ZP ∧ Below w.heap.size w wr) (fun iV _ => (200 - intOf iV).toNat)
    case atStart => exact ⟨c, A, rfl, Nat.le_refl _, c128, HA.out, (cutN_start A c).symm, X4.out, Z4.out, B4.out⟩
    case round =>
      obtain ⟨i, A1, rfl, hi0, hi, h16, hn, hx, hz, hb⟩ := hrel
      have H1 := Lib.hid h16
      have HN1 := Lib.hid hn
      have X5 := Lib.hid hx
      have Z5 := Lib.hid hz
      have B5 := Lib.hid hb
      have a16 := h16.1
      clear h16 hn hx hz hb
      by_cases hlt : i < 128
      · have t0 : decide ((i : Int) < 128) = true := decide_eq_true (by omega)
        have CB := Lib.hid (rbit_any A1 i wr H1.out hlt)
        have BT := bit_two A1 i
        have NX := Lib.hid (cutN_next A hi0 hlt)
        have BI : Hid (bitA A1 i = ((aN A / 2 ^ (127 - i) % 2 : Nat) : Int)) := Lib.hid (by rw [bit_is H1.out hlt, HN1.out, cutN_bit A hi0 hlt])
        have CT := Lib.hid (fun h => cut_bit H1.out hlt h)
        obtain ⟨bi, hbi⟩ : ∃ bi, bitA A1 i = bi := ⟨_, rfl⟩
        rw [hbi] at CB BT BI CT
        clear hbi
        go_wp2_with (refine wpList_load_mid rfl 22 (.tmp 18) rfl w.heap.size 1 rfl (acells A1) (.array 16 5) (X5.out.range a16) Tryd.underlying22 rfl (Tryd.sizeA a16) ?_)
        refine CB.out.mono ?_
        rintro r w6 ⟨rfl, hb6⟩
        have B6 := Lib.hid (Below.step B5.out hb6)
        have X6 := Lib.hid (X5.out.below hb6 X5.out.lt)
        have Z6 := Lib.hid (Z5.out.below hb6 Z5.out.lt)
        clear hb6 CB X5 Z5 B5
        rcases BT with rfl | rfl
        · have NN : Hid (aN A1 = cutN A c (i + 1)) := Lib.hid (by
            have h1 := NX.out
            have h2 := BI.out
            have h3 : aN A / 2 ^ (127 - i) % 2 = 0 := by omega
            rw [h3, Nat.mul_zero, Nat.add_zero] at h1
            rw [HN1.out, h1])
          clear NX BI CT
          go_wp2_with fail
          go_roundw
          case rel => exact ⟨i + 1, A1, by go_num, by omega, by omega, H1.out, NN.out, X6.out, Z6.out, B6.out⟩
          case measure => simp only [intOf]; omega
        · obtain ⟨le, s16, sn⟩ := CT.out rfl
          have NN : Hid (aN (A1.set (i / 8) (A1[i / 8]?.getD 0 - 2 ^ (7 - i % 8))) = cutN A c (i + 1)) := Lib.hid (by
            have h1 := NX.out
            have h2 := BI.out
            have h3 : aN A / 2 ^ (127 - i) % 2 = 1 := by omega
            rw [h3, Nat.mul_one, ← HN1.out] at h1
            omega)
          have SS := Lib.hid s16
          clear NX BI CT s16 sn
          obtain ⟨q, hq⟩ : ∃ q, i / 8 = q := ⟨_, rfl⟩
          have r8 := Nat.mod_lt i (show 0 < 8 by omega)
          obtain ⟨r, hrr⟩ : ∃ r, i % 8 = r := ⟨_, rfl⟩
          obtain ⟨s, hs⟩ : ∃ s, 7 - r = s := ⟨_, rfl⟩
          rw [hq, hrr, hs] at NN SS le
          rw [hrr] at r8
          have q16 : q < 16 := by omega
          have s8 : s < 8 := by omega
          have k3 : (i : Int) / 8 = (q : Int) := by omega
          have k3' : (i : Int).tdiv 8 = (q : Int) := by rw [Int.tdiv_eq_ediv_of_nonneg (by omega)]; exact k3
          have k4 : (i : Int) % 8 = (r : Int) := by omega
          have k4' : (i : Int).tmod 8 = (r : Int) := by rw [Int.tmod_eq_emod_of_nonneg (by omega)]; exact k4
          have k5 : IntKind.i64.wrap (q : Int) = (q : Int) := IntWalk.i64_in _ (by omega)
          have k6 : IntKind.i64.wrap (r : Int) = (r : Int) := IntWalk.i64_in _ (by omega)
          have k9 : (7 : Int) - (r : Int) = (s : Int) := by omega
          have k10 : IntKind.i64.wrap (s : Int) = (s : Int) := IntWalk.i64_in _ (by omega)
          have qI : (q : Int) < 16 := by omega
          have q0 : (0 : Int) ≤ (q : Int) := by omega
          have s0 : (0 : Int) ≤ (s : Int) := by omega
          have zr : 0 ≤ A1[q]?.getD 0 ∧ A1[q]?.getD 0 ≤ 255 := by
            rw [List.getElem?_eq_getElem (by rw [a16]; exact q16)]
            exact H1.out.2 _ (List.getElem_mem _)
          have cz := (Blk.cell X6.out (1 + q)).trans (pcells_a a16 q q16)
          have fz := Blk.free X6.out (1 + q)
          have ST := Lib.hid (fun (W : World) (h : PBlk W w.heap.size v A1 (c : Int)) (x : Int) => PBlk.setA h a16 q q16 x)
          have ps : (0 : Int) < 2 ^ s := Int.pow_pos (by decide)
          generalize A1[q]?.getD 0 = z at *
          have k11 : IntKind.u8.wrap (2 ^ s) = 2 ^ s := IntWalk.u8_in _ (by omega)
          have k12 : IntKind.u8.wrap (z - 2 ^ s) = z - 2 ^ s := IntWalk.u8_in _ (by omega)
          clear hq hrr hs
          go_wp2_with fail
          refine wp_region_ord (fun _ _ => True) (fun _ => trivial) (fun _ _ _ _ _ => trivial) ((0, false) :: (1, false) :: (2, false) :: (3, false) :: (4, false) :: (5, false) :: (7, false) :: (8, false) :: (9, false) :: (10, false) :: (12, false) :: (6, true) :: (11, false) :: (13, false) :: (14, true) :: []) (by kernel_rfl) (by kernel_rfl) rfl (by kernel_rfl) (fun _ _ _ _ _ h => h) ?_
          repeat (refine ord_take _ rfl (by rfl) (fun W hW => by go_simp; first | done | rfl) ?_; simp only [Act.put, List.setIfInBounds_toArray, List.set_cons_zero, List.set_cons_succ])
          have cz' : w6.drew.cell? ⟨w.heap.size, 1 + q, none⟩ = some (.int .u8 z) := cz
          have fz' : w6.drew.frozen? ⟨w.heap.size, 1 + q, none⟩ = false := fz
          refine ord_sole rfl (by rfl) (fun K1 hK1 => ?_)
          go_simp
          refine hK1 _ _ trivial ?_
          clear hK1 K1
          repeat (refine ord_take _ rfl (by rfl) (fun W hW => by go_simp; first | done | rfl) ?_; simp only [Act.put, List.setIfInBounds_toArray, List.set_cons_zero, List.set_cons_succ])
          refine ord_sole rfl (by rfl) (fun K1 hK1 => ?_)
          unfold Oper.wp
          go_simp
          refine hK1 _ _ trivial ?_
          clear hK1 K1 cz cz' fz fz'
          refine ord_end ?_
          have X7 : Hid (PBlk (w6.setCell ⟨w.heap.size, 1 + q, none⟩ (.int .u8 (z - 2 ^ s))).drew w.heap.size v (A1.set q (z - 2 ^ s)) (c : Int)) := Lib.hid (show PBlk (w6.setCell ⟨w.heap.size, 1 + q, none⟩ (.int .u8 (z - 2 ^ s))) w.heap.size v (A1.set q (z - 2 ^ s)) (c : Int) from ST.out w6 X6.out (z - 2 ^ s))
          have Z7 : Hid (Blk (w6.setCell ⟨w.heap.size, 1 + q, none⟩ (.int .u8 (z - 2 ^ s))).drew gz 24 ZP) := Lib.hid (show Blk (w6.setCell ⟨w.heap.size, 1 + q, none⟩ (.int .u8 (z - 2 ^ s))) gz 24 ZP from Blk.far Z6.out (by have := HGZ.out; omega) (1 + q) _)
          have B7 : Hid (Below w.heap.size w (w6.setCell ⟨w.heap.size, 1 + q, none⟩ (.int .u8 (z - 2 ^ s))).drew) := Lib.hid (Below.step (Below.setCell B6.out (p := ⟨w.heap.size, 1 + q, none⟩) (Nat.le_refl _) _) (drewN_below _ 1))
          clear X6 Z6 B6 ST
          generalize (w6.setCell ⟨w.heap.size, 1 + q, none⟩ (.int .u8 (z - 2 ^ s))).drew = w7 at *
          go_wp2_with fail
          go_roundw
          case rel => exact ⟨i + 1, _, by go_num, by omega, by omega, SS.out, NN.out, X7.out, Z7.out, B7.out⟩
          case measure => simp only [intOf]; omega
      · have t0 : decide ((i : Int) < 128) = false := decide_eq_false (by omega)
        obtain rfl : i = 128 := by omega
        have FA : Hid (A1 = cutA v A L) := Lib.hid (by rw [CA.out, ← HN1.out, by16_aN H1.out])
        have ZS := Lib.hid (Tryd.sizeP (v := v) (L := (c : Int)) a16)
        have ZE : Hid (ZP.size = (pcells v A1 (c : Int)).size) := Lib.hid (by rw [pcells_size a16]; rfl)
        have P1 := Lib.hid (pcells_one v A1 (c : Int))
        go_wp2_with (first
          | (refine wpList_load_row rfl 24 (.tmp 1) rfl w.heap.size rfl 24 (pcells v A1 (c : Int)) (0, 0) _ X5.out Tryd.underlying24 rfl ZS.out ?_)
          | (refine wpList_store_rowTo rfl 24 (.tmp 2) (.tmp 37) rfl rfl gz (pcells v A1 (c : Int)) rfl rfl 24 ZP Z5.out ZS.out ZE.out P1.out ?_))
        exact bodyPost_ret (results_cell_row rfl _ _ gz 24 (pcells v A1 (c : Int)) (0, 0) _ rfl (setRow_heap _ _ _ _ 24 _ Z5.out) Tryd.underlying24 rfl ZS.out) rfl ⟨by rw [CL.out, ← FA.out], below_setRow B5.out (by have := HGZ.out; omega) _⟩

end Go.Proofs.YtpekpgmdjpcpiaaDoor

namespace Go.Proofs.YtpekpgmdjpcpiaaDoor
open Go.RowKit
set_option linter.unusedVariables false

def strsZ (s : ByteArray) (c : Int) : List ByteArray := SB (partsZ c [] (numsOf s))
def strAt (ss : List ByteArray) (i : Nat) : ByteArray := ss[i]?.getD ByteArray.empty
def fourN (ss : List ByteArray) (i : Nat) : Int := numG 10 255 0 (numsOf (strAt ss i))
/-- The first k of the four bytes. -/
def fourK (ss : List ByteArray) : Nat → List Int
  | 0 => zeroA
  | k + 1 => (fourK ss k).set k (fourN ss k)
def lenN (ss : List ByteArray) : Int := numG 10 128 0 (numsOf (strAt ss 1))
/-- What a text is taken for. -/
def parseZ (s : ByteArray) : Option (Bool × List Int × Int) :=
  if (strsZ s 47).length = 2 then
    (if (strsZ (strAt (strsZ s 47) 0) 46).length = 4 then
      (if 0 ≤ fourN (strsZ (strAt (strsZ s 47) 0) 46) 0 ∧ 0 ≤ fourN (strsZ (strAt (strsZ s 47) 0) 46) 1 ∧ 0 ≤ fourN (strsZ (strAt (strsZ s 47) 0) 46) 2 ∧ 0 ≤ fourN (strsZ (strAt (strsZ s 47) 0) 46) 3 then some (false, fourK (strsZ (strAt (strsZ s 47) 0) 46) 4, lenN (strsZ s 47)) else none)
    else (groupsZ (strsZ (strAt (strsZ s 47) 0) 58)).map fun A => (true, A, lenN (strsZ s 47)))
  else none
def ReadIs (s : ByteArray) (v : Bool) (A : List Int) (L : Int) : Prop := parseZ s = some (v, A, L) ∧ rightA v A L = true ∧ strOfNums (textZ v A L) = s
def GivesRead (s : ByteArray) (w : World) (e : Ending) (w' : World) : Prop :=
  Below w.heap.size w w' ∧ ((∃ v A L, Sixteen A ∧ ReadIs s v A L ∧ e = .returned (.tuple #[.agg (pcells v A L), .int .i64 0])) ∨ ((∀ v A L, ¬ ReadIs s v A L) ∧ e = .returned (.tuple #[.agg ZP, .int .i64 2])))
theorem parts_len (c : Int) : ∀ (xs cur : List Int), (partsZ c cur xs).length ≤ xs.length + 1 ∧ ∀ p ∈ partsZ c cur xs, p.length ≤ cur.length + xs.length
  | [], cur => ⟨by simp [partsZ], fun p hp => by simp [partsZ] at hp; subst hp; simp⟩
  | x :: xs, cur => by
    rw [partsZ]
    split
    · have ih := parts_len c xs []
      refine ⟨by simp only [List.length_cons]; omega, fun p hp => ?_⟩
      rcases List.mem_cons.1 hp with rfl | hp
      · omega
      · have := ih.2 p hp
        simp only [List.length_nil, List.length_cons] at this ⊢
        omega
    · have ih := parts_len c xs (cur ++ [x])
      refine ⟨by simp only [List.length_cons]; omega, fun p hp => ?_⟩
      have := ih.2 p hp
      simp only [List.length_append, List.length_cons, List.length_nil] at this ⊢
      omega
theorem strs_len (s : ByteArray) (c : Int) : (strsZ s c).length ≤ s.size + 1 := by
  have := (parts_len c (numsOf s) []).1
  rw [numsOf_length] at this
  unfold strsZ
  rw [sb_len]
  exact this
theorem strs_size (s : ByteArray) (c : Int) : ∀ t ∈ strsZ s c, t.size ≤ s.size := by
  intro t ht
  obtain ⟨p, hp, rfl⟩ := List.mem_map.1 ht
  have := (parts_len c (numsOf s) []).2 p hp
  rw [numsOf_length] at this
  rw [strOfNums_size]
  simpa using this
theorem strAt_size (s : ByteArray) (c : Int) (i : Nat) : (strAt (strsZ s c) i).size ≤ s.size := by
  unfold strAt
  rcases Nat.lt_or_ge i (strsZ s c).length with h | h
  · rw [List.getElem?_eq_getElem h]
    exact strs_size s c _ (List.getElem_mem h)
  · rw [List.getElem?_eq_none h]
    exact Nat.zero_le _
theorem fourN_rng (ss : List ByteArray) (i : Nat) : -1 ≤ fourN ss i ∧ fourN ss i ≤ 255 := numG_rng (by omega) (by omega) _ _ (by omega) (by omega)
theorem lenN_rng (ss : List ByteArray) : -1 ≤ lenN ss ∧ lenN ss ≤ 128 := numG_rng (by omega) (by omega) _ _ (by omega) (by omega)
theorem fourK_ok (ss : List ByteArray) : ∀ k, (∀ i, i < k → 0 ≤ fourN ss i) → Sixteen (fourK ss k)
  | 0, _ => zeroA_ok
  | k + 1, h => by
    rw [fourK]
    have := fourN_rng ss k
    exact sixteen_set (fourK_ok ss k (fun i hi => h i (by omega))) k _ (h k (by omega)) (by omega)
theorem parse_none2 {s : ByteArray} (h : (strsZ s 47).length ≠ 2) : parseZ s = none := by unfold parseZ; rw [if_neg h]
theorem parse_four {s : ByteArray} (h : (strsZ s 47).length = 2) (h4 : (strsZ (strAt (strsZ s 47) 0) 46).length = 4) (hf : ∀ i, i < 4 → 0 ≤ fourN (strsZ (strAt (strsZ s 47) 0) 46) i) : parseZ s = some (false, fourK (strsZ (strAt (strsZ s 47) 0) 46) 4, lenN (strsZ s 47)) := by
  unfold parseZ
  rw [if_pos h, if_pos h4, if_pos ⟨hf 0 (by omega), hf 1 (by omega), hf 2 (by omega), hf 3 (by omega)⟩]
theorem parse_nofour {s : ByteArray} (h4 : (strsZ (strAt (strsZ s 47) 0) 46).length = 4) {i : Nat} (hi : i < 4) (hf : ¬ 0 ≤ fourN (strsZ (strAt (strsZ s 47) 0) 46) i) : parseZ s = none := by
  unfold parseZ
  by_cases h : (strsZ s 47).length = 2
  · rw [if_pos h, if_pos h4, if_neg]
    rintro ⟨g0, g1, g2, g3⟩
    have : i = 0 ∨ i = 1 ∨ i = 2 ∨ i = 3 := by omega
    rcases this with rfl | rfl | rfl | rfl
    · exact hf g0
    · exact hf g1
    · exact hf g2
    · exact hf g3
  · rw [if_neg h]
theorem parse_six {s : ByteArray} (h : (strsZ s 47).length = 2) (h4 : (strsZ (strAt (strsZ s 47) 0) 46).length ≠ 4) : parseZ s = (groupsZ (strsZ (strAt (strsZ s 47) 0) 58)).map fun A => (true, A, lenN (strsZ s 47)) := by
  unfold parseZ
  rw [if_pos h, if_neg h4]
theorem gives_none {s : ByteArray} {w w' : World} (h : parseZ s = none) (hb : Below w.heap.size w w') : GivesRead s w (.returned (.tuple #[.agg ZP, .int .i64 2])) w' :=
  ⟨hb, .inr ⟨(fun v A L k => by have := k.1; rw [h] at this; cases this), rfl⟩⟩
theorem gives_wrong {s : ByteArray} {w w' : World} {v : Bool} {A : List Int} {L : Int} (h : parseZ s = some (v, A, L)) (hn : ¬ (rightA v A L = true ∧ strOfNums (textZ v A L) = s)) (hb : Below w.heap.size w w') : GivesRead s w (.returned (.tuple #[.agg ZP, .int .i64 2])) w' :=
  ⟨hb, .inr ⟨fun u B M k => by
    have h1 := k.1
    rw [h] at h1
    injection h1 with h1
    injection h1 with e1 e2
    injection e2 with e2 e3
    subst e1 e2 e3
    exact hn ⟨k.2.1, k.2.2⟩, rfl⟩⟩
theorem gives_one {s : ByteArray} {w w' : World} {v : Bool} {A : List Int} {L : Int} (hA : Sixteen A) (h : parseZ s = some (v, A, L)) (hr : rightA v A L = true) (ht : strOfNums (textZ v A L) = s) (hb : Below w.heap.size w w') : GivesRead s w (.returned (.tuple #[.agg (pcells v A L), .int .i64 0])) w' :=
  ⟨hb, .inl ⟨v, A, L, hA, ⟨h, hr, ht⟩, rfl⟩⟩

theorem pcells_setV {v u : Bool} {A : List Int} {L : Int} : (pcells v A L).setIfInBounds 0 (.bool u) = pcells u A L := rfl
theorem PBlk.setV {w : World} {g : Nat} {v : Bool} {A : List Int} {L : Int} (h : PBlk w g v A L) (u : Bool) : PBlk (w.setCell ⟨g, 0, none⟩ (.bool u)) g u A L := by
  have := Blk.set h 0 (.bool u)
  rwa [pcells_setV] at this
theorem set_split {A : List Int} {q : Nat} (x : Int) (hq : q < A.length) : (A.set q x).take (q + 1) = A.take q ++ [x] ∧ ∀ m, (A.set q x).drop (q + 1 + m) = A.drop (q + 1 + m) := by
  have e : A.set q x = A.take q ++ x :: A.drop (q + 1) := by rw [List.set_eq_take_append_cons_drop, if_pos hq]
  have l : (A.take q).length = q := by rw [List.length_take]; omega
  refine ⟨?_, fun m => ?_⟩
  · rw [List.take_add_one, List.take_set_of_le (Nat.le_refl _), List.getElem?_set_self hq]
    rfl
  · rw [List.drop_set_of_lt (by omega)]
theorem PBlk.setAll {g : Nat} {v : Bool} {L : Int} : ∀ (Bs : List Int) (q : Nat) (w : World) (A : List Int), A.length = 16 → q + Bs.length ≤ 16 → PBlk w g v A L → PBlk (w.setCells g (1 + q) (acells Bs)) g v (A.take q ++ Bs ++ A.drop (q + Bs.length)) L
  | [], q, w, A, hA, hl, h => by
    have e : A.take q ++ [] ++ A.drop (q + ([] : List Int).length) = A := by rw [List.append_nil, List.length_nil, Nat.add_zero, List.take_append_drop]
    rw [e]
    exact h
  | x :: r, q, w, A, hA, hl, h => by
    simp only [List.length_cons] at hl
    have ih := PBlk.setAll r (q + 1) _ _ (by rw [List.length_set]; exact hA) (by omega) (PBlk.setA h hA q (by omega) x)
    obtain ⟨e1, e2⟩ := set_split x (show q < A.length by omega)
    rw [e1, e2, List.append_assoc (A.take q)] at ih
    have e3 : A.take q ++ x :: r ++ A.drop (q + (x :: r).length) = A.take q ++ ([x] ++ r) ++ A.drop (q + 1 + r.length) := by
      rw [List.length_cons, show q + (r.length + 1) = q + 1 + r.length by omega]
      rfl
    rw [e3]
    exact ih
theorem PBlk.setWhole {g : Nat} {v : Bool} {L : Int} {w : World} {A B : List Int} (hA : A.length = 16) (hB : B.length = 16) (h : PBlk w g v A L) : PBlk (w.setCells g 1 (acells B)) g v B L := by
  have := PBlk.setAll B 0 w A hA (by omega) h
  rw [List.take_zero, List.drop_eq_nil_of_le (by omega), List.append_nil] at this
  exact this
theorem below_setCells {B g : Nat} {w : World} (hg : B ≤ g) : ∀ (vs : List Value) (o : Nat) (w' : World), Below B w w' → Below B w (w'.setCells g o vs)
  | [], _, _, h => h
  | v :: r, o, w', h => below_setCells hg r (o + 1) _ (Below.setCell h (p := ⟨g, o, none⟩) hg v)
theorem Blk.farAll {g g' : Nat} {t : TypeId} {cs : Array Value} (hne : g' ≠ g) : ∀ (vs : List Value) (o : Nat) (w : World), Blk w g' t cs → Blk (w.setCells g o vs) g' t cs
  | [], _, _, h => h
  | v :: r, o, w, h => Blk.farAll hne r (o + 1) _ (Blk.far h hne o v)
theorem PBlk.there {w : World} {g : Nat} {v : Bool} {A : List Int} {L : Int} (h : PBlk w g v A L) (hA : A.length = 16) : w.there g 1 16 := by
  intro j hj
  refine ⟨?_, Blk.free h (1 + j)⟩
  rw [Blk.cell h (1 + j), pcells_a hA j hj]
  rfl

end Go.Proofs.YtpekpgmdjpcpiaaDoor

namespace Go.Proofs.YtpekpgmdjpcpiaaDoor
open Go.RowKit
set_option linter.unusedVariables false

theorem digV_chr {d : Nat} (h : d < 16) : digV (chrZ d) = d := by
  unfold digV chrZ
  split <;> split <;> first | omega | (split <;> omega)
theorem numG_app {b m : Int} (hb : 0 ≤ b) : ∀ (xs : List Int) (k q : Int) (ys : List Int), numG b m k xs = q → 0 ≤ q → numG b m k (xs ++ ys) = numG b m q ys
  | [], k, q, ys, h, _ => by
    rw [numG] at h
    rw [h]
    rfl
  | c :: cs, k, q, ys, h, h0 => by
    rw [List.cons_append, numG]
    rw [numG] at h
    split at h
    · omega
    · rename_i hn
      rw [if_neg hn]
      exact numG_app hb cs _ q ys h h0
theorem num_dig {b : Nat} (h2 : 2 ≤ b) (h16 : b ≤ 16) (m n : Nat) : n ≤ m → numG b m 0 (digZ b n) = n := by
  induction n using Nat.strongRecOn with
  | ind n ih =>
    intro hm
    rcases Nat.lt_or_ge n b with h | h
    · rw [dig_small h, numG, digV_chr (by omega), if_neg (by omega), numG]
      omega
    · have hd : n / b < n := Nat.div_lt_self (by omega) (by omega)
      have hr : n % b < b := Nat.mod_lt _ (by omega)
      have e := Nat.div_add_mod n b
      have e' : ((n / b : Nat) : Int) * (b : Int) + ((n % b : Nat) : Int) = (n : Int) := by
        have : (((b * (n / b) + n % b : Nat)) : Int) = (n : Int) := by rw [e]
        rw [Int.natCast_add, Int.natCast_mul, Int.mul_comm] at this
        exact this
      rw [dig_step h2 h, numG_app (by omega) _ _ _ _ (ih _ hd (by omega)) (Int.natCast_nonneg _), numG, digV_chr (by omega), e', if_neg (by omega), numG]
/-- A digit's letter is no point, no stroke, no colon. -/
def Plain (l : List Int) : Prop := ∀ x ∈ l, (48 ≤ x ∧ x ≤ 57) ∨ (97 ≤ x ∧ x ≤ 102)
theorem chr_plain {d : Nat} (h : d < 16) : (48 ≤ chrZ d ∧ chrZ d ≤ 57) ∨ (97 ≤ chrZ d ∧ chrZ d ≤ 102) := by
  unfold chrZ
  split <;> omega
theorem dig_plain {b : Nat} (h2 : 2 ≤ b) (h16 : b ≤ 16) (n : Nat) : Plain (digZ b n) := by
  induction n using Nat.strongRecOn with
  | ind n ih =>
    intro x hx
    rcases Nat.lt_or_ge n b with h | h
    · rw [dig_small h] at hx
      simp at hx
      subst hx
      exact chr_plain (by omega)
    · rw [dig_step h2 h] at hx
      rcases List.mem_append.1 hx with hx | hx
      · exact ih _ (Nat.div_lt_self (by omega) (by omega)) x hx
      · simp at hx
        subst hx
        exact chr_plain (by have := Nat.mod_lt n (show 0 < b by omega); omega)
theorem dig_some {b : Nat} (h2 : 2 ≤ b) (n : Nat) : digZ b n ≠ [] := by
  rcases Nat.lt_or_ge n b with h | h
  · rw [dig_small h]
    simp
  · rw [dig_step h2 h]
    simp
theorem Plain.no {l : List Int} (h : Plain l) {c : Int} (hc : c = 46 ∨ c = 47 ∨ c = 58) : c ∉ l := fun hm => by have := h c hm; omega
/-- Parts. -/
theorem parts_one {c : Int} : ∀ (xs cur : List Int), c ∉ xs → partsZ c cur xs = [cur ++ xs]
  | [], cur, _ => by rw [partsZ, List.append_nil]
  | x :: xs, cur, h => by
    simp only [List.mem_cons, not_or] at h
    rw [partsZ, if_neg (fun e => h.1 e.symm), parts_one xs _ h.2, List.append_assoc]
    rfl
theorem parts_more {c : Int} (ys : List Int) : ∀ (xs cur : List Int), c ∉ xs → partsZ c cur (xs ++ c :: ys) = (cur ++ xs) :: partsZ c [] ys
  | [], cur, _ => by rw [List.nil_append, partsZ, if_pos rfl, List.append_nil]
  | x :: xs, cur, h => by
    simp only [List.mem_cons, not_or] at h
    rw [List.cons_append, partsZ, if_neg (fun e => h.1 e.symm), parts_more ys xs _ h.2, List.append_assoc]
    rfl
theorem bytes_nums {l : List Int} (h : Bytes l) : numsOf (strOfNums l) = l := nums_str l h
/-- The whole text's parts. -/
theorem text_parts {s d : List Int} (hs : Bytes s) (hd : Bytes d) (n1 : (47 : Int) ∉ s) (n2 : (47 : Int) ∉ d) : strsZ (strOfNums (s ++ [47] ++ d)) 47 = [strOfNums s, strOfNums d] := by
  have hb : Bytes (s ++ [47] ++ d) := (hs.app (fun x hx => by simp at hx; omega)).app hd
  unfold strsZ
  rw [bytes_nums hb, List.append_assoc]
  rw [show [47] ++ d = (47 : Int) :: d from rfl, parts_more d s [] n1, parts_one d [] n2]
  rfl
theorem four_parts {A : List Int} (hA : Sixteen A) : strsZ (strOfNums (fourZ A)) 46 = [strOfNums (decZ A 0), strOfNums (decZ A 1), strOfNums (decZ A 2), strOfNums (decZ A 3)] := by
  have np : ∀ q, (46 : Int) ∉ decZ A q := fun q => (dig_plain (by omega) (by omega) _).no (.inl rfl)
  unfold strsZ
  rw [bytes_nums (four_ok hA).1]
  unfold fourZ
  have e : decZ A 0 ++ [46] ++ decZ A 1 ++ [46] ++ decZ A 2 ++ [46] ++ decZ A 3 = decZ A 0 ++ 46 :: (decZ A 1 ++ 46 :: (decZ A 2 ++ 46 :: decZ A 3)) := by simp
  rw [e, parts_more _ _ _ (np 0), parts_more _ _ _ (np 1), parts_more _ _ _ (np 2), parts_one _ _ (np 3)]
  rfl
theorem four_no47 {A : List Int} : (47 : Int) ∉ fourZ A := by
  have np : ∀ q, (47 : Int) ∉ decZ A q := fun q => (dig_plain (by omega) (by omega) _).no (.inr (.inl rfl))
  unfold fourZ
  simp [np]
theorem dec_num {A : List Int} (hA : Sixteen A) (q : Nat) : numG 10 255 0 (numsOf (strOfNums (decZ A q))) = A[q]?.getD 0 := by
  have x := sixteen_at hA q
  rw [bytes_nums (dec_ok hA q).1]
  unfold decZ
  have := num_dig (b := 10) (by omega) (by omega) 255 (A[q]?.getD 0).toNat (by omega)
  rw [show ((10 : Nat) : Int) = 10 from rfl, show ((255 : Nat) : Int) = 255 from rfl] at this
  rw [this]
  omega
theorem len_num {L : Int} (h0 : 0 ≤ L) (h1 : L ≤ 128) : numG 10 128 0 (numsOf (strOfNums (digZ 10 L.toNat))) = L := by
  rw [bytes_nums (dig_byte (by omega) (by omega) _)]
  have := num_dig (b := 10) (by omega) (by omega) 128 L.toNat (by omega)
  rw [show ((10 : Nat) : Int) = 10 from rfl, show ((128 : Nat) : Int) = 128 from rfl] at this
  rw [this]
  omega
/-- The four bytes, laid. -/
theorem fourK_is {A : List Int} (hA : A.length = 16) (hz : ∀ q, 4 ≤ q → q < 16 → A[q]?.getD 0 = 0) {F : List ByteArray} (hF : ∀ i, i < 4 → fourN F i = A[i]?.getD 0) : fourK F 4 = A := by
  simp only [fourK]
  rw [hF 0 (by omega), hF 1 (by omega), hF 2 (by omega), hF 3 (by omega)]
  match A, hA with
  | [a0, a1, a2, a3, a4, a5, a6, a7, a8, a9, a10, a11, a12, a13, a14, a15], _ =>
    have z4 : a4 = 0 := hz 4 (by omega) (by omega)
    have z5 : a5 = 0 := hz 5 (by omega) (by omega)
    have z6 : a6 = 0 := hz 6 (by omega) (by omega)
    have z7 : a7 = 0 := hz 7 (by omega) (by omega)
    have z8 : a8 = 0 := hz 8 (by omega) (by omega)
    have z9 : a9 = 0 := hz 9 (by omega) (by omega)
    have z10 : a10 = 0 := hz 10 (by omega) (by omega)
    have z11 : a11 = 0 := hz 11 (by omega) (by omega)
    have z12 : a12 = 0 := hz 12 (by omega) (by omega)
    have z13 : a13 = 0 := hz 13 (by omega) (by omega)
    have z14 : a14 = 0 := hz 14 (by omega) (by omega)
    have z15 : a15 = 0 := hz 15 (by omega) (by omega)
    subst z4 z5 z6 z7 z8 z9 z10 z11 z12 z13 z14 z15
    rfl
/-- A valid prefix that is not V6 has twelve noughts. -/
theorem right_noughts {A : List Int} {L : Int} (hA : Sixteen A) (h : rightA false A L = true) : ∀ q, 4 ≤ q → q < 16 → A[q]?.getD 0 = 0 := by
  obtain ⟨h0, h1, h2⟩ := (right_is ..).1 h
  have h32 : L ≤ 32 := h1
  intro q q4 q16
  have e := aN_at hA.2 q (by rw [hA.1]; exact q16)
  rw [hA.1] at e
  rw [← e]
  have p : (256 : Nat) ^ (16 - 1 - q) * 256 = 2 ^ (8 * (16 - q)) := by
    rw [← Nat.pow_succ, show (256 : Nat) = 2 ^ 8 from rfl, ← Nat.pow_mul]
    congr 1
    omega
  have d : 2 ^ (8 * (16 - q)) ∣ aN A := Nat.dvd_trans (Nat.pow_dvd_pow 2 (by omega)) (Nat.dvd_of_mod_eq_zero h2)
  obtain ⟨k, hk⟩ := d
  have pp : 0 < (256 : Nat) ^ (16 - 1 - q) := Nat.pow_pos (by decide)
  rw [hk, ← p, Nat.mul_assoc, Nat.mul_div_cancel_left _ pp, Nat.mul_mod_right]
  rfl
/-- An IPv4 prefix is read back. -/
theorem parse_back4 {A : List Int} {L : Int} (hA : Sixteen A) (h : rightA false A L = true) : parseZ (strOfNums (textZ false A L)) = some (false, A, L) := by
  obtain ⟨h0, h1, _⟩ := (right_is ..).1 h
  have h32 : L ≤ 32 := h1
  have e : textZ false A L = fourZ A ++ [47] ++ digZ 10 L.toNat := rfl
  have tp : strsZ (strOfNums (textZ false A L)) 47 = [strOfNums (fourZ A), strOfNums (digZ 10 L.toNat)] := by
    rw [e]
    exact text_parts (four_ok hA).1 (dig_byte (by omega) (by omega) _) four_no47 ((dig_plain (by omega) (by omega) _).no (.inr (.inl rfl)))
  have s0 : strAt (strsZ (strOfNums (textZ false A L)) 47) 0 = strOfNums (fourZ A) := by rw [tp]; rfl
  have fN : ∀ i, i < 4 → fourN (strsZ (strAt (strsZ (strOfNums (textZ false A L)) 47) 0) 46) i = A[i]?.getD 0 := by
    intro i hi
    rw [s0, four_parts hA]
    have : i = 0 ∨ i = 1 ∨ i = 2 ∨ i = 3 := by omega
    rcases this with rfl | rfl | rfl | rfl
    · exact dec_num hA 0
    · exact dec_num hA 1
    · exact dec_num hA 2
    · exact dec_num hA 3
  rw [parse_four (by rw [tp]; rfl) (by rw [s0, four_parts hA]; rfl) (fun i hi => by rw [fN i hi]; exact (sixteen_at hA i).1)]
  rw [fourK_is hA.1 (right_noughts hA h) fN]
  have l1 : lenN (strsZ (strOfNums (textZ false A L)) 47) = L := by
    rw [tp]
    exact len_num h0 (by omega)
  rw [l1]

end Go.Proofs.YtpekpgmdjpcpiaaDoor

namespace Go.Proofs.YtpekpgmdjpcpiaaDoor
open Go.RowKit
set_option linter.unusedVariables false

theorem parts_snoc {c : Int} {t : List Int} (ht : c ∉ t) : ∀ (s cur : List Int), partsZ c cur (s ++ c :: t) = partsZ c cur s ++ [t]
  | [], cur => by
    rw [List.nil_append, partsZ, partsZ, if_pos rfl, parts_one t [] ht]
    rfl
  | x :: xs, cur => by
    rw [List.cons_append, partsZ, partsZ]
    split
    · rw [parts_snoc ht xs]
      rfl
    · rw [parts_snoc ht xs]
theorem hex_plain (A : List Int) (i : Nat) : Plain (hexG A i) := dig_plain (by omega) (by omega) _
theorem hex_some (A : List Int) (i : Nat) : hexG A i ≠ [] := dig_some (by omega) _
theorem hex_no (A : List Int) (i : Nat) : (58 : Int) ∉ hexG A i := (hex_plain A i).no (.inr (.inr rfl))
theorem sep_yes (s : List Int) (A : List Int) (i : Nat) : sepG (s ++ hexG A i) = s ++ hexG A i ++ [58] := by
  have hl : 0 < (hexG A i).length := List.length_pos_iff.2 (hex_some A i)
  have hm : (s ++ hexG A i)[(s ++ hexG A i).length - 1]?.getD 0 ≠ 58 := by
    intro e
    rw [List.length_append, List.getElem?_append_right (by omega), List.getElem?_eq_getElem (by omega)] at e
    exact hex_no A i (e ▸ List.getElem_mem _)
  unfold sepG
  rw [if_pos ⟨by rw [List.length_append]; omega, hm⟩]
theorem sep_no (s : List Int) : sepG (s ++ [58]) = s ++ [58] := by
  unfold sepG
  rw [if_neg]
  rintro ⟨_, h⟩
  apply h
  rw [List.length_append, List.length_singleton, Nat.add_sub_cancel, List.getElem?_append_right (by omega), Nat.sub_self]
  rfl
theorem run_parts1 (A : List Int) : ∀ m, partsZ 58 [] (runG [] A 0 (m + 1)) = (List.range (m + 1)).map (hexG A)
  | 0 => by
    have e : runG [] A 0 1 = hexG A 0 := by
      show sepG [] ++ hexG A (0 + 0) = _
      rfl
    rw [e, parts_one _ [] (hex_no A 0)]
    rfl
  | m + 1 => by
    have ih := run_parts1 A m
    have e : runG [] A 0 (m + 1 + 1) = runG [] A 0 (m + 1) ++ 58 :: hexG A (m + 1) := by
      show sepG (addG (runG [] A 0 m) A (0 + m)) ++ hexG A (0 + (m + 1)) = addG (runG [] A 0 m) A (0 + m) ++ 58 :: hexG A (m + 1)
      unfold addG
      rw [sep_yes, Nat.zero_add (m + 1), List.append_assoc _ [58]]
      rfl
    rw [e, parts_snoc (hex_no A _), ih, List.range_succ (n := m + 1), List.map_append]
    rfl
def tailP (A : List Int) (i m : Nat) : List (List Int) := if m = 0 then [[]] else (List.range m).map fun j => hexG A (i + j)
theorem run_parts2 (u A : List Int) (i : Nat) : ∀ m, partsZ 58 [] (runG (u ++ [58, 58]) A i m) = partsZ 58 [] u ++ [[]] ++ tailP A i m
  | 0 => by
    show partsZ 58 [] (u ++ [58, 58]) = _
    have e : u ++ [58, 58] = (u ++ 58 :: []) ++ (58 : Int) :: [] := by simp
    rw [e, parts_snoc (by simp), parts_snoc (by simp)]
    rfl
  | 1 => by
    have e : runG (u ++ [58, 58]) A i 1 = (u ++ 58 :: []) ++ (58 : Int) :: hexG A i := by
      show sepG (u ++ [58, 58]) ++ hexG A (i + 0) = _
      have e2 : u ++ [58, 58] = (u ++ [58]) ++ [(58 : Int)] := by simp
      rw [e2, sep_no]
      simp
    rw [e, parts_snoc (hex_no A i), parts_snoc (by simp)]
    rfl
  | m + 2 => by
    have ih := run_parts2 u A i (m + 1)
    have e : runG (u ++ [58, 58]) A i (m + 1 + 1) = runG (u ++ [58, 58]) A i (m + 1) ++ 58 :: hexG A (i + (m + 1)) := by
      show sepG (addG (runG (u ++ [58, 58]) A i m) A (i + m)) ++ hexG A (i + (m + 1)) = addG (runG (u ++ [58, 58]) A i m) A (i + m) ++ 58 :: hexG A (i + (m + 1))
      unfold addG
      rw [sep_yes, List.append_assoc _ [58]]
      rfl
    have t1 : tailP A i (m + 1) = (List.range (m + 1)).map fun j => hexG A (i + j) := rfl
    have t2 : tailP A i (m + 1 + 1) = (List.range (m + 1 + 1)).map fun j => hexG A (i + j) := rfl
    rw [show m + 2 = m + 1 + 1 from rfl, e, parts_snoc (hex_no A _), ih, t1, t2, List.range_succ (n := m + 1), List.map_append, List.append_assoc]
    rfl

/-- A part's value. -/
def valP (p : List Int) : Int := partV (strOfNums p)
theorem val_none : valP [] = -1 := rfl
theorem num_none : 0 ≤ numV (strOfNums []) := by decide
theorem num_hex {A : List Int} (hA : Sixteen A) (i : Nat) : numV (strOfNums (hexG A i)) = grpZ A i := by
  have hg := grp_range hA i
  unfold numV
  rw [bytes_nums (hexG_ok hA i).1]
  have := num_dig (b := 16) (by omega) (by omega) 65535 (grpZ A i).toNat (by omega)
  rw [show ((16 : Nat) : Int) = 16 from rfl, show ((65535 : Nat) : Int) = 65535 from rfl] at this
  unfold hexG
  rw [this]
  omega
theorem val_hex {A : List Int} (hA : Sixteen A) (i : Nat) : valP (hexG A i) = grpZ A i := by
  have hl : (hexG A i).length ≠ 0 := fun e => hex_some A i (List.eq_nil_of_length_eq_zero e)
  unfold valP partV
  rw [strOfNums_size, if_neg hl, num_hex hA]
theorem groups_are {A : List Int} (hA : Sixteen A) {P : List (List Int)} (h : ∀ p ∈ P, p = [] ∨ ∃ i, p = hexG A i) : groupsZ (SB P) = fillZ (P.map valP) 0 false zeroA := by
  unfold groupsZ
  rw [if_pos]
  · unfold SB
    rw [List.map_map]
    rfl
  · intro s hs
    obtain ⟨p, hp, rfl⟩ := List.mem_map.1 hs
    rcases h p hp with rfl | ⟨i, rfl⟩
    · exact num_none
    · rw [num_hex hA]
      exact (grp_range hA i).1
/-- Groups copied. -/
def layG (A : List Int) : Nat → Nat → List Int → List Int
  | _, 0, B => B
  | i, m + 1, B => layG A (i + 1) m ((B.set (2 * i) (grpZ A i / 256)).set (2 * i + 1) (grpZ A i % 256))
def grps (A : List Int) (i m : Nat) : List Int := (List.range m).map fun j => grpZ A (i + j)
theorem grps_more (A : List Int) (i m : Nat) : grps A i (m + 1) = grpZ A i :: grps A (i + 1) m := by
  unfold grps
  rw [List.range_succ_eq_map, List.map_cons, List.map_map]
  congr 1
  apply List.map_congr_left
  intro j _
  simp only [Function.comp]
  congr 1
  omega
theorem fill_run {A : List Int} (hA : Sixteen A) : ∀ (m i : Nat) (f : Bool) (B rest : List Int), i + m ≤ 8 → fillZ (grps A i m ++ rest) i f B = fillZ rest (i + m) f (layG A i m B)
  | 0, i, f, B, rest, _ => rfl
  | m + 1, i, f, B, rest, h => by
    rw [grps_more, List.cons_append, fillZ, if_pos (grp_range hA i).1, if_neg (by omega), fill_run hA m (i + 1) f _ rest (by omega), layG]
    congr 1
    omega
theorem cnt_run {A : List Int} (hA : Sixteen A) : ∀ (m i : Nat), cntN (grps A i m) = m
  | 0, i => rfl
  | m + 1, i => by
    rw [grps_more, cntN, if_pos (grp_range hA i).1, cnt_run hA m]
    omega
theorem lay_at {A : List Int} (hA : Sixteen A) : ∀ (m i : Nat) (B : List Int), B.length = 16 → i + m ≤ 8 → (layG A i m B).length = 16 ∧ ∀ q, q < 16 → (layG A i m B)[q]?.getD 0 = if 2 * i ≤ q ∧ q < 2 * (i + m) then A[q]?.getD 0 else B[q]?.getD 0
  | 0, i, B, hB, _ => ⟨hB, fun q _ => by rw [if_neg (by omega)]; rfl⟩
  | m + 1, i, B, hB, h => by
    have x0 := sixteen_at hA (2 * i)
    have x1 := sixteen_at hA (2 * i + 1)
    have g0 : grpZ A i / 256 = A[2 * i]?.getD 0 := by unfold grpZ; omega
    have g1 : grpZ A i % 256 = A[2 * i + 1]?.getD 0 := by unfold grpZ; omega
    rw [layG, g0, g1]
    obtain ⟨l, ih⟩ := lay_at hA m (i + 1) ((B.set (2 * i) (A[2 * i]?.getD 0)).set (2 * i + 1) (A[2 * i + 1]?.getD 0)) (by rw [List.length_set, List.length_set]; exact hB) (by omega)
    refine ⟨l, fun q hq => ?_⟩
    rw [ih q hq]
    by_cases h1 : q = 2 * i
    · subst h1
      rw [if_neg (by omega), if_pos (by omega), List.getElem?_set_ne (by omega), List.getElem?_set_self (by rw [hB]; omega)]
      rfl
    · by_cases h2 : q = 2 * i + 1
      · subst h2
        rw [if_neg (by omega), if_pos (by omega), List.getElem?_set_self (by rw [List.length_set, hB]; omega)]
        rfl
      · rw [List.getElem?_set_ne (by omega), List.getElem?_set_ne (by omega)]
        by_cases h3 : 2 * (i + 1) ≤ q ∧ q < 2 * (i + 1 + m)
        · rw [if_pos h3, if_pos (by omega)]
        · rw [if_neg h3, if_neg (by omega)]
theorem sixteen_ext {A B : List Int} (hA : A.length = 16) (hB : B.length = 16) (h : ∀ q, q < 16 → A[q]?.getD 0 = B[q]?.getD 0) : A = B := by
  apply List.ext_getElem (hA.trans hB.symm)
  intro q q1 q2
  have := h q (by omega)
  rw [List.getElem?_eq_getElem q1, List.getElem?_eq_getElem q2] at this
  exact this

end Go.Proofs.YtpekpgmdjpcpiaaDoor
