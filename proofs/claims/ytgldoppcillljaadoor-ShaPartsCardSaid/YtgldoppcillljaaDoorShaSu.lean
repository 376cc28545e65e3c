/-
  What putWord and Sum answer, for stage 6 (sha).
-/
import Derived.Test.YtgldoppcillljaaDoorShaWr
namespace Go.Proofs.YtgldoppcillljaaDoor
open Go.RowKit
set_option linter.unusedVariables false

/-- The block of 32 bytes, as far as they are laid. -/
def bcells (l : List Int) : Array Value := ((l ++ List.replicate (32 - l.length) 0).map (Value.int .u8)).toArray
def Z32 : Array Value := (List.replicate 32 (Value.int .u8 0)).toArray
theorem bcells_nil : bcells [] = Z32 := rfl
theorem bcells_size (l : List Int) (h : l.length ≤ 32) : (bcells l).size = 32 := by
  unfold bcells
  simp
  omega
theorem bcells_set (l : List Int) (x : Int) (k : Nat) (hk : k = l.length) (h : l.length < 32) : (bcells l).setIfInBounds k (.int .u8 x) = bcells (l ++ [x]) := by
  subst hk
  unfold bcells
  apply Array.ext'
  rw [Array.toList_setIfInBounds, List.length_append, List.length_singleton]
  show ((l ++ List.replicate (32 - l.length) 0).map (Value.int .u8)).set l.length (.int .u8 x) = (l ++ [x] ++ List.replicate (32 - (l.length + 1)) 0).map (Value.int .u8)
  rw [← List.map_set, List.set_append_right _ _ (Nat.le_refl _), Nat.sub_self, show 32 - l.length = (32 - (l.length + 1)) + 1 by omega, List.replicate_succ, List.set_cons_zero, List.append_assoc]
  rfl
theorem bcells_get (l : List Int) (i : Nat) (h : i < 32) : (bcells l)[i]? = some (.int .u8 (l[i]?.getD 0)) := by
  unfold bcells
  rw [List.getElem?_toArray, List.getElem?_map, List.getElem?_append]
  split
  · rename_i hi
    rw [List.getElem?_eq_getElem hi]
    rfl
  · rename_i hi
    rw [List.getElem?_replicate, if_pos (by omega), List.getElem?_eq_none (by omega)]
    rfl
theorem bcells_one (l : List Int) : (bcells l).all (·.oneCell') = true := by
  unfold bcells
  exact all_oneCell_toArray (u8_one _)
theorem Tryd.size24 (l : List Int) (h : l.length ≤ 32) : (Tryd.prog.info? 24).map (·.size) = some (bcells l).size := by
  rw [bcells_size l h]
  kernel_rfl
theorem be4 (x : Int) : beZ 4 x = [x / 16777216 % 256, x / 65536 % 256, x / 256 % 256, x % 256] := by
  have e : beZ 4 x = [x / 256 ^ 3 % 256, x / 256 ^ 2 % 256, x / 256 ^ 1 % 256, x / 256 ^ 0 % 256] := rfl
  rw [e, show (256 : Int) ^ 3 = 16777216 by rfl, show (256 : Int) ^ 2 = 65536 by rfl, show (256 : Int) ^ 1 = 256 by rfl, show (256 : Int) ^ 0 = 1 by rfl, Int.ediv_one]

set_option maxHeartbeats 500000 in
set_option maxRecDepth 10000 in
theorem putw_any (g : Nat) (l : List Int) (o n c : Nat) (x : Int) (w : World) (hb : Blk w g 24 (bcells l)) (ho : o = l.length) (hl : l.length + 4 ≤ 32) (hn : 4 ≤ n) : Calls Tryd.prog 22 #[.slice (some ⟨g, o, none⟩) n c, .int .u32 x] w fun e w' => e = .returned (.tuple #[]) ∧ Blk w' g 24 (bcells (l ++ beZ 4 x)) ∧ w.grownBy w' (some g) := by
  subst ho
  have c0 := (hb.cell l.length).trans (bcells_get l l.length (by omega))
  have c1 := (hb.cell (l.length + 1)).trans (bcells_get l (l.length + 1) (by omega))
  have c2 := (hb.cell (l.length + 2)).trans (bcells_get l (l.length + 2) (by omega))
  have c3 := (hb.cell (l.length + 3)).trans (bcells_get l (l.length + 3) (by omega))
  have f0 := hb.free l.length
  have f1 := hb.free (l.length + 1)
  have f2 := hb.free (l.length + 2)
  have f3 := hb.free (l.length + 3)
  have F : Hid (∀ y0 y1 y2 y3 : Int, y0 = x / 16777216 % 256 → y1 = x / 65536 % 256 → y2 = x / 256 % 256 → y3 = x % 256 → Blk ((((w.setCell ⟨g, l.length, none⟩ (.int .u8 y0)).setCell ⟨g, l.length + 1, none⟩ (.int .u8 y1)).setCell ⟨g, l.length + 2, none⟩ (.int .u8 y2)).setCell ⟨g, l.length + 3, none⟩ (.int .u8 y3)) g 24 (bcells (l ++ beZ 4 x)) ∧
      w.grownBy ((((w.setCell ⟨g, l.length, none⟩ (.int .u8 y0)).setCell ⟨g, l.length + 1, none⟩ (.int .u8 y1)).setCell ⟨g, l.length + 2, none⟩ (.int .u8 y2)).setCell ⟨g, l.length + 3, none⟩ (.int .u8 y3)) (some g)) := by
    refine Lib.hid ?_
    rintro _ _ _ _ rfl rfl rfl rfl
    refine ⟨?_, ((((grown_set w g _ _).trans (grown_set _ g _ _)).trans (grown_set _ g _ _)).trans (grown_set _ g _ _))⟩
    have b1 := hb.set l.length (.int .u8 (x / 16777216 % 256))
    rw [bcells_set l _ _ rfl (by omega)] at b1
    have b2 := b1.set (l.length + 1) (.int .u8 (x / 65536 % 256))
    rw [bcells_set _ _ _ (by simp) (by simp; omega)] at b2
    have b3 := b2.set (l.length + 2) (.int .u8 (x / 256 % 256))
    rw [bcells_set _ _ _ (by simp) (by simp; omega)] at b3
    have b4 := b3.set (l.length + 3) (.int .u8 (x % 256))
    rw [bcells_set _ _ _ (by simp) (by simp; omega)] at b4
    rw [be4]
    simpa using b4
  have k0 : (0 : Int) < (n : Int) := by omega
  have k1 : (1 : Int) < (n : Int) := by omega
  have k2 : (2 : Int) < (n : Int) := by omega
  have k3 : (3 : Int) < (n : Int) := by omega
  clear hb
  go_enter Tryd.func22, Tryd.ntmps22
  go_wp2_with fail
  go_end0
  exact ⟨rfl, F.out _ _ _ _ rfl rfl rfl rfl⟩

/-- The bytes of the first words. -/
def outK (v : V8) (k : Nat) : List Int := (v.list.take k).flatMap fun x => beZ 4 x
theorem outK_len (v : V8) (k : Nat) (h : k ≤ 8) : (outK v k).length = 4 * k := by
  rcases k with _ | _ | _ | _ | _ | _ | _ | _ | _ | k
  all_goals first | rfl | omega
theorem outK_next (v : V8) (k : Nat) (h : k < 8) : outK v (k + 1) = outK v k ++ beZ 4 (v.list[k]?.getD 0) := by
  unfold outK
  have hl : k < v.list.length := h
  rw [List.take_add_one, List.flatMap_append, List.getElem?_eq_getElem hl]
  simp
theorem outK_all (v : V8) : outK v 8 = outV v := rfl
theorem fill_div (zs : List Int) : (fillZ zs).length % 64 = 0 := by
  have := (fill_len zs).1
  omega
theorem hash_len (zs : List Int) : (hashZ zs).length = 32 := by
  unfold hashZ outV V8.list
  simp [beZ_length]
theorem hash_byte (zs : List Int) : ∀ x ∈ hashZ zs, 0 ≤ x ∧ x ≤ 255 := by
  intro x hx
  unfold hashZ outV at hx
  obtain ⟨y, _, hy⟩ := List.mem_flatMap.1 hx
  exact beZ_byte 4 y x hy

/-- A hash is handed back. -/
def GivesHash (zs : List Int) (w : World) (e : Ending) (w' : World) : Prop := e = .returned (.agg (bcells zs)) ∧ Below w.heap.size w w'

/-- Where Sum's loop stands. -/
def SumAt (w wr : World) (S : Nat) (l : List Int) : Prop := Blk wr w.heap.size 24 Z32 ∧ Blk wr S 24 (bcells l) ∧ Below w.heap.size w wr
theorem Tryd.size45 (s : V8) (m : Int) (rs : List Int) (h : rs.length = 64) : (Tryd.prog.info? 45).map (·.size) = some (hcells s m rs).size := by
  rw [hcells_size _ _ _ h]
  kernel_rfl
theorem hcells_one (s : V8) (m : Int) (rs : List Int) : (hcells s m rs).all (·.oneCell') = true := by
  unfold hcells
  refine all_oneCell_toArray ?_
  intro v hv
  rcases List.mem_append.1 hv with hv | hv
  · exact (Array.all_eq_true_iff_forall_mem.1 (cells_one s)) v (by simpa using hv)
  · rcases List.mem_cons.1 hv with rfl | hv
    · rfl
    · exact u8_one rs v hv

theorem idx_words (v : V8) (k : Nat) (h : k < 8) (W : World) : (Instr.index 41 (.agg v.cells) (.int .i64 (k : Int))).run Tryd.prog W = .ok (.int .u32 (v.list[k]?.getD 0)) W := by
  obtain ⟨a, b, c, d, e, f, g, hh⟩ := v
  rcases k with _ | _ | _ | _ | _ | _ | _ | _ | k
  all_goals first
    | (exfalso; omega)
    | (simp only [V8.cells, V8.list]; kernel_rfl)
theorem SumAt.next {w wr w' : World} {S : Nat} {v : V8} {k : Nat} (h : SumAt w wr S (outK v k)) (hk : k < 8) (hS : w.heap.size < S) (hb : Blk w' S 24 (bcells (outK v k ++ beZ 4 (v.list[k]?.getD 0)))) (hg : wr.grownBy w' (some S)) : SumAt w w' S (outK v (k + 1)) := by
  refine ⟨(hg.block _ (Blk.lt h.1) (by simp; omega)).trans h.1, ?_, h.2.2.grown hg h.2.2.size (fun j e => by simp at e; omega)⟩
  rw [outK_next v k hk]
  exact hb
def ZHash : Array Value := hcells Z8 0 (List.replicate 64 0)
theorem zhash_size : ZHash.size = 73 := rfl
/-- A copy of a Hash. -/
def Copied (w wr : World) (g : Nat) (L : List Int) : Prop := Blk wr w.heap.size 24 Z32 ∧ Holds wr (w.heap.size + 1) L ∧ Below w.heap.size w wr ∧ w.heap.size + 1 < wr.heap.size
theorem copied_start {w : World} {g : Nat} {L rs : List Int} (h64 : rs.length = 64) (hrb : ∀ x ∈ rs, 0 ≤ x ∧ x ≤ 255) (hrt : rs.take (L.length % 64) = L.drop (64 * (L.length / 64))) :
    Blk ((w.alloc (.cells Z32 24)).alloc (.cells ZHash 45)) (w.heap.size + 1) 45 ZHash ∧ Copied w (((w.alloc (.cells Z32 24)).alloc (.cells ZHash 45)).setRow (w.heap.size + 1) (hcells (runV (L.length / 64) H0 L) (L.length : Int) rs)) g L := by
  have hs : (w.alloc (.cells Z32 24)).heap.size = w.heap.size + 1 := by simp
  have h2 := Blk.new (w.alloc (.cells Z32 24)) 45 ZHash
  rw [hs] at h2
  refine ⟨h2, (setRow_other _ _ _ _ (by omega)).trans ((Blk.new w _ _).alloc _), ⟨rs, h64, hrb, hrt, setRow_heap _ _ _ _ _ _ h2⟩, below_setRow (((Below.refl _ _).alloc (Nat.le_refl _) _).alloc (by rw [hs]; omega) _) (by omega) _, ?_⟩
  show _ < (World.setRow _ _ _).heap.size
  simp [World.setRow]

set_option maxHeartbeats 1000000 in
set_option maxRecDepth 100000 in
theorem sum_any (g : Nat) (L : List Int) (w : World) (hh : Holds w g L) (ht : Tab w) (hl : L.length ≤ 100000) :
    Calls Tryd.prog 14 #[.pointer (some ⟨g, 0, none⟩)] w (GivesHash (hashZ L) w) := by
  obtain ⟨rs, h64, hrb, hrt, hblk⟩ := hh
  have hlt := Blk.lt hblk
  have BR : Below w.heap.size w (w.alloc (.cells Z32 24)) := (Below.refl _ _).alloc (Nat.le_refl _) _
  have HB := Lib.hid (Blk.below hblk BR hlt)
  have HH := Lib.hid hblk
  have CS := Lib.hid (copied_start (w := w) (g := g) h64 hrb hrt)
  have TA := Lib.hid ht
  clear hblk hrb hrt ht BR
  generalize hC : hcells (runV (L.length / 64) H0 L) (L.length : Int) rs = C at *
  have S45 : Hid ((Tryd.prog.info? 45).map (·.size) = some C.size) := by rw [← hC]; exact Lib.hid (Tryd.size45 _ _ _ h64)
  have SZ : Hid (ZHash.size = C.size) := by rw [← hC, hcells_size _ _ _ h64]; exact Lib.hid rfl
  have ONE : Hid (C.all (·.oneCell') = true) := by rw [← hC]; exact Lib.hid (hcells_one _ _ _)
  have CM : Hid (C[8]? = some (.int .u64 (L.length : Int))) := by rw [← hC]; exact Lib.hid (hcells_many _ _ _)
  have HH2 : Hid (Blk w g 45 C) := by rw [← hC]; exact Lib.hid HH.out
  clear hC HH
  have CS1 : Hid (Blk ((w.alloc (.cells Z32 24)).alloc (.cells ZHash 45)) (w.alloc (.cells Z32 24)).heap.size 45 ZHash) := Lib.hid (Blk.new _ _ _)
  have K3 := Lib.hid CS.out.2
  have d8 := (K3.out.2.2.1.cell (p := ⟨g, 8, none⟩) hlt).trans ((Blk.cell HH2.out 8).trans CM.out)
  go_enter Tryd.func14, Tryd.ntmps14
  go_wp2_with (first
    | (refine Great.wpList_allocTo rfl (some 2) rfl (.pointer (some ⟨w.heap.size, 0, none⟩)) (.cells Z32 24) rfl ?_)
    | (refine wpList_load_row rfl 45 (.tmp 8) rfl g rfl 45 C (0, 0) _ HB.out Tryd.underlying45 rfl S45.out ?_)
    | (refine Great.wpList_allocTo rfl (some 3) rfl (.pointer (some ⟨(w.alloc (.cells Z32 24)).heap.size, 0, none⟩)) (.cells ZHash 45) rfl ?_)
    | (refine wpList_store_rowTo rfl 45 (.tmp 3) (.tmp 9) rfl rfl (w.alloc (.cells Z32 24)).heap.size C rfl rfl 45 ZHash CS1.out S45.out SZ.out ONE.out ?_))
  generalize (((w.alloc (.cells Z32 24)).alloc (.cells ZHash 45)).setRow (w.heap.size + 1) C) = w3 at *
  clear d8 CS CS1 S45 SZ ONE CM HH2 HB
  refine (padding_any L.length w3 (by omega)).mono ?_
  rintro e w4 ⟨V, rfl, ho⟩
  have hp9 : 0 < (padZ L.length).length := by unfold padZ; simp
  have hpl : (padZ L.length).length ≤ 200 := by
    have := pad_le L.length
    unfold padZ
    simp only [List.length_append, List.length_cons, List.length_nil, List.length_replicate, beZ_length]
    omega
  obtain ⟨gp, cap, rfl, hge⟩ := ho.form hp9
  have hpb : ∀ x ∈ padZ L.length, 0 ≤ x ∧ x ≤ 255 := by
    intro x hx
    unfold padZ at hx
    rcases List.mem_append.1 hx with hx | hx
    · rcases List.mem_append.1 hx with hx | hx
      · simp at hx
        omega
      · have := List.eq_of_mem_replicate hx
        omega
    · exact beZ_byte _ _ x hx
  have hcap := own_cap ho.1
  have hrow : Row w4 (some ⟨gp, 0, none⟩) (padZ L.length).length (padZ L.length) := Row.of_own ho.1 hpb
  have hb4 := ho.2
  have hP := K3.out.2.2.2
  have T3 := TA.out.below K3.out.2.2.1
  have TW := Lib.hid (T3.below hb4)
  have H4 := Lib.hid (K3.out.2.1.below hb4)
  have A4 := Lib.hid (Blk.below K3.out.1 hb4 (by omega))
  have B4 := Lib.hid (Below.step K3.out.2.2.1 hb4)
  have AP := Lib.hid (show Apart w4 (w.heap.size + 1) (some ⟨gp, 0, none⟩) (padZ L.length).length (padZ L.length) from ⟨hrow, fun _ => ⟨gp, 0, rfl, by omega⟩⟩)
  have h2 := TA.out.1
  have FI := Lib.hid (fill_is L)
  clear ho hrow hb4 T3 K3 hpb hp9 hP
  generalize padZ L.length = pz at *
  go_wp2_with fail
  refine (write_any (w.heap.size + 1) L (some ⟨gp, 0, none⟩) pz.length cap pz w4 H4.out (by omega) AP.out hcap TW.out (by omega)).mono ?_
  rintro e w5 ⟨rfl, hh5, hg5⟩
  have A5 : Hid (Blk w5 w.heap.size 24 Z32) := Lib.hid ((hg5.block _ (Blk.lt A4.out) (by simp)).trans A4.out)
  have B5 : Hid (Below w.heap.size w w5) := Lib.hid (B4.out.grown hg5 B4.out.size (fun k e => by simp at e; omega))
  rw [← FI.out] at hh5
  obtain ⟨r5, k64, -, -, hk⟩ := hh5
  have HX : Hid (hashZ L = outV (runV ((fillZ L).length / 64) H0 (fillZ L))) := Lib.hid rfl
  have L32 := hash_len L
  generalize hashZ L = hz at *
  generalize runV ((fillZ L).length / 64) H0 (fillZ L) = v at *
  generalize ((fillZ L).length : Int) = fl at *
  have P5 := Lib.hid hk
  have hP5 := Blk.lt hk
  clear hk hg5 A4 B4 AP TW H4 hcap FI h2
  have A6 : Hid (Blk (w5.alloc (.cells Z32 24)) w.heap.size 24 Z32) := Lib.hid (A5.out.alloc _)
  have P6 : Hid (HBlk (w5.alloc (.cells Z32 24)) (w.heap.size + 1) v fl r5) := Lib.hid (Blk.alloc P5.out _)
  have S6 : Hid (Blk (w5.alloc (.cells Z32 24)) w5.heap.size 24 Z32) := Lib.hid (Blk.new _ _ _)
  have B6 : Hid (Below w.heap.size w (w5.alloc (.cells Z32 24))) := Lib.hid (B5.out.alloc B5.out.size _)
  go_wp2_with (first
    | (refine Great.wpList_allocTo rfl (some 4) rfl (.pointer (some ⟨w5.heap.size, 0, none⟩)) (.cells Z32 24) rfl ?_)
    | (refine wpList_load_mid rfl 41 (.tmp 16) rfl (w.heap.size + 1) 0 rfl v.cells.toList (.array 8 37) P6.out.range Tryd.underlying41 rfl (Tryd.size41 v) ?_))
  have SA : Hid (SumAt w (w5.alloc (.cells Z32 24)) w5.heap.size (outK v 0)) := Lib.hid ⟨A6.out, S6.out, B6.out⟩
  have hRS : w.heap.size < w5.heap.size := by omega
  clear A5 B5 P5 A6 P6 S6 B6
  generalize w5.alloc (.cells Z32 24) = w6 at *
  generalize w5.heap.size = S at *
  go_loopw [18] (fun i wr => ∃ k : Nat, k ≤ 8 ∧ i = .int .i64 (k : Int) ∧ SumAt w wr S (outK v k)) (fun i _ => (9 - intOf i).toNat)
  case atStart => exact ⟨0, by omega, rfl, SA.out⟩
  case round =>
    obtain ⟨k, hk, rfl, hsa⟩ := hrel
    have SB := Lib.hid hsa
    clear hsa SA
    by_cases hk2 : k < 8
    · have t0 : decide ((k : Int) < 8) = true := by simp; omega
      have IX := fun W => idx_words v k hk2 W
      have OL := outK_len v k hk
      have PU := Lib.hid (fun c => putw_any S (outK v k) (4 * k) (32 - 4 * k) c (v.list[k]?.getD 0) wr SB.out.2.1 OL.symm (by omega) (by omega))
      have NX := Lib.hid (fun w' hb hg => SB.out.next (w' := w') hk2 hRS hb hg)
      obtain ⟨o, ho⟩ : ∃ o : Nat, 4 * k = o := ⟨_, rfl⟩
      rw [ho] at PU
      have h4 : IntKind.i64.wrap (4 * (k : Int)) = (o : Int) := by rw [show 4 * (k : Int) = (o : Int) by omega]; exact IntWalk.i64_in _ (by omega)
      have hle : (o : Int) ≤ 32 := by omega
      have hne : ¬ 32 = o := by omega
      clear SB OL
      generalize v.list[k]?.getD 0 = x at *
      generalize outK v k = l at *
      generalize hl1 : outK v (k + 1) = l1 at *
      have HL1 := Lib.hid hl1
      clear hl1
      go_wp2_with fail
      refine (PU.out _).mono ?_
      rintro e w7 ⟨rfl, hb7, hg7⟩
      have N7 := Lib.hid (NX.out _ hb7 hg7)
      clear hb7 hg7 NX PU
      go_wp2_with fail
      go_roundw
      case rel => exact ⟨k + 1, by omega, by first | rfl | go_num, by rw [HL1.out]; exact N7.out⟩
      case measure => simp only [intOf]; omega
    · obtain rfl : k = 8 := by omega
      have F : Hid (outK v 8 = hz) := by rw [HX.out, outK_all]; exact Lib.hid rfl
      rw [F.out] at SB
      have KA := Lib.hid SB.out.1
      have KS := Lib.hid SB.out.2.1
      have KW := Lib.hid SB.out.2.2
      have L2 : hz.length ≤ 32 := by omega
      clear SB F HX
      rw [show ((8 : Nat) : Int) = 8 by rfl]
      go_wp2_with (first
        | (refine wpList_load_row rfl 24 (.tmp 4) rfl S rfl 24 (bcells hz) (0, 0) (.array 32 5) KS.out Tryd.underlying24 rfl (Tryd.size24 hz L2) ?_)
        | (refine wpList_store_rowTo rfl 24 (.tmp 2) (.tmp 28) rfl rfl w.heap.size (bcells hz) rfl rfl 24 Z32 KA.out (Tryd.size24 hz L2) (by rw [bcells_size hz L2]; rfl) (bcells_one hz) ?_))
      exact bodyPost_ret (results_cell_row rfl _ _ w.heap.size 24 (bcells hz) (0, 0) (.array 32 5) rfl (setRow_heap _ _ _ _ 24 _ KA.out) Tryd.underlying24 rfl (Tryd.size24 hz L2)) rfl ⟨rfl, below_setRow KW.out (Nat.le_refl _) _⟩

end Go.Proofs.YtgldoppcillljaaDoor
