/-
  Merged texts: ShaSu, ShaOf, Out32, Num, ShaTh, ShaRf, ShaQ, RsB.
-/
import Derived.Test.YtdhablbfblkagaaDoorGrB
import Derived.Test.YtdhablbfblkagaaDoorGrA
import Derived.Test.YtdhablbfblkagaaDoorRows
import Derived.WalkKit
import Derived.WalkSpells
import Derived.WalkLawsBesides
import Derived.Deep.QuietTactic
import Derived.BigQuiet
import Derived.Lib.Hide
import Derived.Laws.BitsLemmas
import Derived.ChangeKeysEq
namespace Go.Proofs.YtdhablbfblkagaaDoor
open Go.RowKit
set_option linter.unusedVariables false

/-- The block of 32 bytes, as far as they are laid. -/
def bcells (l : List Int) : Array Value := ((l ++ List.replicate (32 - l.length) 0).map (Value.int .u8)).toArray
def Z32 : Array Value := (List.replicate 32 (Value.int .u8 0)).toArray
theorem bcells_nil : bcells [] = Z32 := rfl
theorem bcells_size (l : List Int) (h : l.length ≤ 32) : (bcells l).size = 32 := by
  unfold bcells
  simp
  omega
theorem bcells_set (l : List Int) (x : Int) (k : Nat) (hk : k = l.length) (h : l.length < 32) : (bcells l).setIfInBounds k (.int .u8 x) = bcells (l ++ [x]) := by
  subst hk
  unfold bcells
  apply Array.ext'
  rw [Array.toList_setIfInBounds, List.length_append, List.length_singleton]
  show ((l ++ List.replicate (32 - l.length) 0).map (Value.int .u8)).set l.length (.int .u8 x) = (l ++ [x] ++ List.replicate (32 - (l.length + 1)) 0).map (Value.int .u8)
  rw [← List.map_set, List.set_append_right _ _ (Nat.le_refl _), Nat.sub_self, show 32 - l.length = (32 - (l.length + 1)) + 1 by omega, List.replicate_succ, List.set_cons_zero, List.append_assoc]
  rfl
theorem bcells_get (l : List Int) (i : Nat) (h : i < 32) : (bcells l)[i]? = some (.int .u8 (l[i]?.getD 0)) := by
  unfold bcells
  rw [List.getElem?_toArray, List.getElem?_map, List.getElem?_append]
  split
  · rename_i hi
    rw [List.getElem?_eq_getElem hi]
    rfl
  · rename_i hi
    rw [List.getElem?_replicate, if_pos (by omega), List.getElem?_eq_none (by omega)]
    rfl
theorem bcells_one (l : List Int) : (bcells l).all (·.oneCell') = true := by
  unfold bcells
  exact all_oneCell_toArray (u8_one _)
theorem Tryd.size24 (l : List Int) (h : l.length ≤ 32) : (Tryd.prog.info? 36).map (·.size) = some (bcells l).size := by
  rw [bcells_size l h]
  kernel_rfl
theorem be4 (x : Int) : beZ 4 x = [x / 16777216 % 256, x / 65536 % 256, x / 256 % 256, x % 256] := by
  have e : beZ 4 x = [x / 256 ^ 3 % 256, x / 256 ^ 2 % 256, x / 256 ^ 1 % 256, x / 256 ^ 0 % 256] := rfl
  rw [e, show (256 : Int) ^ 3 = 16777216 by rfl, show (256 : Int) ^ 2 = 65536 by rfl, show (256 : Int) ^ 1 = 256 by rfl, show (256 : Int) ^ 0 = 1 by rfl, Int.ediv_one]

set_option maxHeartbeats 500000 in
set_option maxRecDepth 10000 in
theorem putw_any (g : Nat) (l : List Int) (o n c : Nat) (x : Int) (w : World) (hb : Blk w g 36 (bcells l)) (ho : o = l.length) (hl : l.length + 4 ≤ 32) (hn : 4 ≤ n) : Calls Tryd.prog 56 #[.slice (some ⟨g, o, none⟩) n c, .int .u32 x] w fun e w' => e = .returned (.tuple #[]) ∧ Blk w' g 36 (bcells (l ++ beZ 4 x)) ∧ w.grownBy w' (some g) := by
  subst ho
  have c0 := (hb.cell l.length).trans (bcells_get l l.length (by omega))
  have c1 := (hb.cell (l.length + 1)).trans (bcells_get l (l.length + 1) (by omega))
  have c2 := (hb.cell (l.length + 2)).trans (bcells_get l (l.length + 2) (by omega))
  have c3 := (hb.cell (l.length + 3)).trans (bcells_get l (l.length + 3) (by omega))
  have f0 := hb.free l.length
  have f1 := hb.free (l.length + 1)
  have f2 := hb.free (l.length + 2)
  have f3 := hb.free (l.length + 3)
  have F : Hid (∀ y0 y1 y2 y3 : Int, y0 = x / 16777216 % 256 → y1 = x / 65536 % 256 → y2 = x / 256 % 256 → y3 = x % 256 → Blk ((((w.setCell ⟨g, l.length, none⟩ (.int .u8 y0)).setCell ⟨g, l.length + 1, none⟩ (.int .u8 y1)).setCell ⟨g, l.length + 2, none⟩ (.int .u8 y2)).setCell ⟨g, l.length + 3, none⟩ (.int .u8 y3)) g 36 (bcells (l ++ beZ 4 x)) ∧
      w.grownBy ((((w.setCell ⟨g, l.length, none⟩ (.int .u8 y0)).setCell ⟨g, l.length + 1, none⟩ (.int .u8 y1)).setCell ⟨g, l.length + 2, none⟩ (.int .u8 y2)).setCell ⟨g, l.length + 3, none⟩ (.int .u8 y3)) (some g)) := by
    refine Lib.hid ?_
    rintro _ _ _ _ rfl rfl rfl rfl
    refine ⟨?_, ((((grown_set w g _ _).trans (grown_set _ g _ _)).trans (grown_set _ g _ _)).trans (grown_set _ g _ _))⟩
    have b1 := hb.set l.length (.int .u8 (x / 16777216 % 256))
    rw [bcells_set l _ _ rfl (by omega)] at b1
    have b2 := b1.set (l.length + 1) (.int .u8 (x / 65536 % 256))
    rw [bcells_set _ _ _ (by simp) (by simp; omega)] at b2
    have b3 := b2.set (l.length + 2) (.int .u8 (x / 256 % 256))
    rw [bcells_set _ _ _ (by simp) (by simp; omega)] at b3
    have b4 := b3.set (l.length + 3) (.int .u8 (x % 256))
    rw [bcells_set _ _ _ (by simp) (by simp; omega)] at b4
    rw [be4]
    simpa using b4
  have k0 : (0 : Int) < (n : Int) := by omega
  have k1 : (1 : Int) < (n : Int) := by omega
  have k2 : (2 : Int) < (n : Int) := by omega
  have k3 : (3 : Int) < (n : Int) := by omega
  clear hb
  go_enter Tryd.func56, Tryd.ntmps56
  go_wp2_with fail
  go_end0
  exact ⟨rfl, F.out _ _ _ _ rfl rfl rfl rfl⟩

/-- The bytes of the first words. -/
def outK (v : V8) (k : Nat) : List Int := (v.list.take k).flatMap fun x => beZ 4 x
theorem outK_len (v : V8) (k : Nat) (h : k ≤ 8) : (outK v k).length = 4 * k := by
  rcases k with _ | _ | _ | _ | _ | _ | _ | _ | _ | k
  all_goals first | rfl | omega
theorem outK_next (v : V8) (k : Nat) (h : k < 8) : outK v (k + 1) = outK v k ++ beZ 4 (v.list[k]?.getD 0) := by
  unfold outK
  have hl : k < v.list.length := h
  rw [List.take_add_one, List.flatMap_append, List.getElem?_eq_getElem hl]
  simp
theorem outK_all (v : V8) : outK v 8 = outV v := rfl
theorem fill_div (zs : List Int) : (fillZ zs).length % 64 = 0 := by
  have := (fill_len zs).1
  omega
theorem hash_len (zs : List Int) : (hashZ zs).length = 32 := by
  unfold hashZ outV V8.list
  simp [beZ_length]
theorem hash_byte (zs : List Int) : ∀ x ∈ hashZ zs, 0 ≤ x ∧ x ≤ 255 := by
  intro x hx
  unfold hashZ outV at hx
  obtain ⟨y, _, hy⟩ := List.mem_flatMap.1 hx
  exact beZ_byte 4 y x hy

/-- A hash is handed back. -/
def GivesHash (zs : List Int) (w : World) (e : Ending) (w' : World) : Prop := e = .returned (.agg (bcells zs)) ∧ Below w.heap.size w w'

/-- Where Sum's loop stands. -/
def SumAt (w wr : World) (S : Nat) (l : List Int) : Prop := Blk wr w.heap.size 36 Z32 ∧ Blk wr S 36 (bcells l) ∧ Below w.heap.size w wr
theorem Tryd.size45 (s : V8) (m : Int) (rs : List Int) (h : rs.length = 64) : (Tryd.prog.info? 76).map (·.size) = some (hcells s m rs).size := by
  rw [hcells_size _ _ _ h]
  kernel_rfl
theorem hcells_one (s : V8) (m : Int) (rs : List Int) : (hcells s m rs).all (·.oneCell') = true := by
  unfold hcells
  refine all_oneCell_toArray ?_
  intro v hv
  rcases List.mem_append.1 hv with hv | hv
  · exact (Array.all_eq_true_iff_forall_mem.1 (cells_one s)) v (by simpa using hv)
  · rcases List.mem_cons.1 hv with rfl | hv
    · rfl
    · exact u8_one rs v hv

theorem idx_words (v : V8) (k : Nat) (h : k < 8) (W : World) : (Instr.index 73 (.agg v.cells) (.int .i64 (k : Int))).run Tryd.prog W = .ok (.int .u32 (v.list[k]?.getD 0)) W := by
  obtain ⟨a, b, c, d, e, f, g, hh⟩ := v
  rcases k with _ | _ | _ | _ | _ | _ | _ | _ | k
  all_goals first
    | (exfalso; omega)
    | (simp only [V8.cells, V8.list]; kernel_rfl)
theorem SumAt.next {w wr w' : World} {S : Nat} {v : V8} {k : Nat} (h : SumAt w wr S (outK v k)) (hk : k < 8) (hS : w.heap.size < S) (hb : Blk w' S 36 (bcells (outK v k ++ beZ 4 (v.list[k]?.getD 0)))) (hg : wr.grownBy w' (some S)) : SumAt w w' S (outK v (k + 1)) := by
  refine ⟨(hg.block _ (Blk.lt h.1) (by simp; omega)).trans h.1, ?_, h.2.2.grown hg h.2.2.size (fun j e => by simp at e; omega)⟩
  rw [outK_next v k hk]
  exact hb
def ZHash : Array Value := hcells Z8 0 (List.replicate 64 0)
theorem zhash_size : ZHash.size = 73 := rfl
/-- A copy of a Hash. -/
def Copied (w wr : World) (g : Nat) (L : List Int) : Prop := Blk wr w.heap.size 36 Z32 ∧ Holds wr (w.heap.size + 1) L ∧ Below w.heap.size w wr ∧ w.heap.size + 1 < wr.heap.size
theorem copied_start {w : World} {g : Nat} {L rs : List Int} (h64 : rs.length = 64) (hrb : ∀ x ∈ rs, 0 ≤ x ∧ x ≤ 255) (hrt : rs.take (L.length % 64) = L.drop (64 * (L.length / 64))) :
    Blk ((w.alloc (.cells Z32 36)).alloc (.cells ZHash 76)) (w.heap.size + 1) 76 ZHash ∧ Copied w (((w.alloc (.cells Z32 36)).alloc (.cells ZHash 76)).setRow (w.heap.size + 1) (hcells (runV (L.length / 64) H0 L) (L.length : Int) rs)) g L := by
  have hs : (w.alloc (.cells Z32 36)).heap.size = w.heap.size + 1 := by simp
  have h2 := Blk.new (w.alloc (.cells Z32 36)) 76 ZHash
  rw [hs] at h2
  refine ⟨h2, (setRow_other _ _ _ _ (by omega)).trans ((Blk.new w _ _).alloc _), ⟨rs, h64, hrb, hrt, setRow_heap _ _ _ _ _ _ h2⟩, below_setRow (((Below.refl _ _).alloc (Nat.le_refl _) _).alloc (by rw [hs]; omega) _) (by omega) _, ?_⟩
  show _ < (World.setRow _ _ _).heap.size
  simp [World.setRow]

set_option maxHeartbeats 1000000 in
set_option maxRecDepth 100000 in
theorem sum_any (g : Nat) (L : List Int) (w : World) (hh : Holds w g L) (ht : Tab w) (hl : L.length ≤ 100000) :
    Calls Tryd.prog 37 #[.pointer (some ⟨g, 0, none⟩)] w (GivesHash (hashZ L) w) := by
  obtain ⟨rs, h64, hrb, hrt, hblk⟩ := hh
  have hlt := Blk.lt hblk
  have BR : Below w.heap.size w (w.alloc (.cells Z32 36)) := (Below.refl _ _).alloc (Nat.le_refl _) _
  have HB := Lib.hid (Blk.below hblk BR hlt)
  have HH := Lib.hid hblk
  have CS := Lib.hid (copied_start (w := w) (g := g) h64 hrb hrt)
  have TA := Lib.hid ht
  clear hblk hrb hrt ht BR
  generalize hC : hcells (runV (L.length / 64) H0 L) (L.length : Int) rs = C at *
  have S45 : Hid ((Tryd.prog.info? 76).map (·.size) = some C.size) := by rw [← hC]; exact Lib.hid (Tryd.size45 _ _ _ h64)
  have SZ : Hid (ZHash.size = C.size) := by rw [← hC, hcells_size _ _ _ h64]; exact Lib.hid rfl
  have ONE : Hid (C.all (·.oneCell') = true) := by rw [← hC]; exact Lib.hid (hcells_one _ _ _)
  have CM : Hid (C[8]? = some (.int .u64 (L.length : Int))) := by rw [← hC]; exact Lib.hid (hcells_many _ _ _)
  have HH2 : Hid (Blk w g 76 C) := by rw [← hC]; exact Lib.hid HH.out
  clear hC HH
  have CS1 : Hid (Blk ((w.alloc (.cells Z32 36)).alloc (.cells ZHash 76)) (w.alloc (.cells Z32 36)).heap.size 76 ZHash) := Lib.hid (Blk.new _ _ _)
  have K3 := Lib.hid CS.out.2
  have d8 := (K3.out.2.2.1.cell (p := ⟨g, 8, none⟩) hlt).trans ((Blk.cell HH2.out 8).trans CM.out)
  go_enter Tryd.func37, Tryd.ntmps37
  go_wp2_with (first
    | (refine Great.wpList_allocTo rfl (some 2) rfl (.pointer (some ⟨w.heap.size, 0, none⟩)) (.cells Z32 36) rfl ?_)
    | (refine wpList_load_row rfl 76 (.tmp 8) rfl g rfl 76 C (0, 0) _ HB.out Tryd.underlying76 rfl S45.out ?_)
    | (refine Great.wpList_allocTo rfl (some 3) rfl (.pointer (some ⟨(w.alloc (.cells Z32 36)).heap.size, 0, none⟩)) (.cells ZHash 76) rfl ?_)
    | (refine wpList_store_rowTo rfl 76 (.tmp 3) (.tmp 9) rfl rfl (w.alloc (.cells Z32 36)).heap.size C rfl rfl 76 ZHash CS1.out S45.out SZ.out ONE.out ?_))
  generalize (((w.alloc (.cells Z32 36)).alloc (.cells ZHash 76)).setRow (w.heap.size + 1) C) = w3 at *
  clear d8 CS CS1 S45 SZ ONE CM HH2 HB
  refine (padding_any L.length w3 (by omega)).mono ?_
  rintro e w4 ⟨V, rfl, ho⟩
  have hp9 : 0 < (padZ L.length).length := by unfold padZ; simp
  have hpl : (padZ L.length).length ≤ 200 := by
    have := pad_le L.length
    unfold padZ
    simp only [List.length_append, List.length_cons, List.length_nil, List.length_replicate, beZ_length]
    omega
  obtain ⟨gp, cap, rfl, hge⟩ := ho.form hp9
  have hpb : ∀ x ∈ padZ L.length, 0 ≤ x ∧ x ≤ 255 := by
    intro x hx
    unfold padZ at hx
    rcases List.mem_append.1 hx with hx | hx
    · rcases List.mem_append.1 hx with hx | hx
      · simp at hx
        omega
      · have := List.eq_of_mem_replicate hx
        omega
    · exact beZ_byte _ _ x hx
  have hcap := own_cap ho.1
  have hrow : Row w4 (some ⟨gp, 0, none⟩) (padZ L.length).length (padZ L.length) := Row.of_own ho.1 hpb
  have hb4 := ho.2
  have hP := K3.out.2.2.2
  have T3 := TA.out.below K3.out.2.2.1
  have TW := Lib.hid (T3.below hb4)
  have H4 := Lib.hid (K3.out.2.1.below hb4)
  have A4 := Lib.hid (Blk.below K3.out.1 hb4 (by omega))
  have B4 := Lib.hid (Below.step K3.out.2.2.1 hb4)
  have AP := Lib.hid (show Apart w4 (w.heap.size + 1) (some ⟨gp, 0, none⟩) (padZ L.length).length (padZ L.length) from ⟨hrow, fun _ => ⟨gp, 0, rfl, by omega⟩⟩)
  have h2 := TA.out.1
  have FI := Lib.hid (fill_is L)
  clear ho hrow hb4 T3 K3 hpb hp9 hP
  generalize padZ L.length = pz at *
  go_wp2_with fail
  refine (write_any (w.heap.size + 1) L (some ⟨gp, 0, none⟩) pz.length cap pz w4 H4.out (by omega) AP.out hcap TW.out (by omega)).mono ?_
  rintro e w5 ⟨rfl, hh5, hg5⟩
  have A5 : Hid (Blk w5 w.heap.size 36 Z32) := Lib.hid ((hg5.block _ (Blk.lt A4.out) (by simp)).trans A4.out)
  have B5 : Hid (Below w.heap.size w w5) := Lib.hid (B4.out.grown hg5 B4.out.size (fun k e => by simp at e; omega))
  rw [← FI.out] at hh5
  obtain ⟨r5, k64, -, -, hk⟩ := hh5
  have HX : Hid (hashZ L = outV (runV ((fillZ L).length / 64) H0 (fillZ L))) := Lib.hid rfl
  have L32 := hash_len L
  generalize hashZ L = hz at *
  generalize runV ((fillZ L).length / 64) H0 (fillZ L) = v at *
  generalize ((fillZ L).length : Int) = fl at *
  have P5 := Lib.hid hk
  have hP5 := Blk.lt hk
  clear hk hg5 A4 B4 AP TW H4 hcap FI h2
  have A6 : Hid (Blk (w5.alloc (.cells Z32 36)) w.heap.size 36 Z32) := Lib.hid (A5.out.alloc _)
  have P6 : Hid (HBlk (w5.alloc (.cells Z32 36)) (w.heap.size + 1) v fl r5) := Lib.hid (Blk.alloc P5.out _)
  have S6 : Hid (Blk (w5.alloc (.cells Z32 36)) w5.heap.size 36 Z32) := Lib.hid (Blk.new _ _ _)
  have B6 : Hid (Below w.heap.size w (w5.alloc (.cells Z32 36))) := Lib.hid (B5.out.alloc B5.out.size _)
  go_wp2_with (first
    | (refine Great.wpList_allocTo rfl (some 4) rfl (.pointer (some ⟨w5.heap.size, 0, none⟩)) (.cells Z32 36) rfl ?_)
    | (refine wpList_load_mid rfl 73 (.tmp 16) rfl (w.heap.size + 1) 0 rfl v.cells.toList (.array 8 23) P6.out.range Tryd.underlying73 rfl (Tryd.size41 v) ?_))
  have SA : Hid (SumAt w (w5.alloc (.cells Z32 36)) w5.heap.size (outK v 0)) := Lib.hid ⟨A6.out, S6.out, B6.out⟩
  have hRS : w.heap.size < w5.heap.size := by omega
  clear A5 B5 P5 A6 P6 S6 B6
  generalize w5.alloc (.cells Z32 36) = w6 at *
  generalize w5.heap.size = S at *
  go_loopw [18] (fun i wr => ∃ k : Nat, k ≤ 8 ∧ i = .int .i64 (k : Int) ∧ SumAt w wr S (outK v k)) (fun i _ => (9 - intOf i).toNat)
  case atStart => exact ⟨0, by omega, rfl, SA.out⟩
  case round =>
    obtain ⟨k, hk, rfl, hsa⟩ := hrel
    have SB := Lib.hid hsa
    clear hsa SA
    by_cases hk2 : k < 8
    · have t0 : decide ((k : Int) < 8) = true := by simp; omega
      have IX := fun W => idx_words v k hk2 W
      have OL := outK_len v k hk
      have PU := Lib.hid (fun c => putw_any S (outK v k) (4 * k) (32 - 4 * k) c (v.list[k]?.getD 0) wr SB.out.2.1 OL.symm (by omega) (by omega))
      have NX := Lib.hid (fun w' hb hg => SB.out.next (w' := w') hk2 hRS hb hg)
      obtain ⟨o, ho⟩ : ∃ o : Nat, 4 * k = o := ⟨_, rfl⟩
      rw [ho] at PU
      have h4 : IntKind.i64.wrap (4 * (k : Int)) = (o : Int) := by rw [show 4 * (k : Int) = (o : Int) by omega]; exact IntWalk.i64_in _ (by omega)
      have hle : (o : Int) ≤ 32 := by omega
      have hne : ¬ 32 = o := by omega
      clear SB OL
      generalize v.list[k]?.getD 0 = x at *
      generalize outK v k = l at *
      generalize hl1 : outK v (k + 1) = l1 at *
      have HL1 := Lib.hid hl1
      clear hl1
      go_wp2_with fail
      refine (PU.out _).mono ?_
      rintro e w7 ⟨rfl, hb7, hg7⟩
      have N7 := Lib.hid (NX.out _ hb7 hg7)
      clear hb7 hg7 NX PU
      go_wp2_with fail
      go_roundw
      case rel => exact ⟨k + 1, by omega, by first | rfl | go_num, by rw [HL1.out]; exact N7.out⟩
      case measure => simp only [intOf]; omega
    · obtain rfl : k = 8 := by omega
      have F : Hid (outK v 8 = hz) := by rw [HX.out, outK_all]; exact Lib.hid rfl
      rw [F.out] at SB
      have KA := Lib.hid SB.out.1
      have KS := Lib.hid SB.out.2.1
      have KW := Lib.hid SB.out.2.2
      have L2 : hz.length ≤ 32 := by omega
      clear SB F HX
      rw [show ((8 : Nat) : Int) = 8 by rfl]
      go_wp2_with (first
        | (refine wpList_load_row rfl 36 (.tmp 4) rfl S rfl 36 (bcells hz) (0, 0) (.array 32 5) KS.out Tryd.underlying36 rfl (Tryd.size24 hz L2) ?_)
        | (refine wpList_store_rowTo rfl 36 (.tmp 2) (.tmp 28) rfl rfl w.heap.size (bcells hz) rfl rfl 36 Z32 KA.out (Tryd.size24 hz L2) (by rw [bcells_size hz L2]; rfl) (bcells_one hz) ?_))
      exact bodyPost_ret (results_cell_row rfl _ _ w.heap.size 36 (bcells hz) (0, 0) (.array 32 5) rfl (setRow_heap _ _ _ _ 36 _ KA.out) Tryd.underlying36 rfl (Tryd.size24 hz L2)) rfl ⟨rfl, below_setRow KW.out (Nat.le_refl _) _⟩

end Go.Proofs.YtdhablbfblkagaaDoor

namespace Go.Proofs.YtdhablbfblkagaaDoor
open Go.RowKit
set_option linter.unusedVariables false

set_option maxHeartbeats 300000 in
set_option maxRecDepth 100000 in
theorem of_any (a : Option Addr) (n ca : Nat) (zs : List Int) (w : World) (hr : Row w a n zs) (hca : n ≤ ca) (hn : n ≤ 100000) (ht : Tab w) :
    Calls Tryd.prog 15 #[.slice a n ca] w (GivesHash (hashZ zs) w) := by
  have B1 : Hid (Below w.heap.size w (w.alloc (.cells Z32 36))) := Lib.hid ((Below.refl _ _).alloc (Nat.le_refl _) _)
  have A1 : Hid (Blk (w.alloc (.cells Z32 36)) w.heap.size 36 Z32) := Lib.hid (Blk.new _ _ _)
  have hs1 : (w.alloc (.cells Z32 36)).heap.size = w.heap.size + 1 := by simp
  have T1 := Lib.hid (ht.below B1.out)
  have HR := Lib.hid hr
  have hzn := hr.1
  have L32 : (hashZ zs).length ≤ 32 := by rw [hash_len]; omega
  have h2 := ht.1
  clear hr ht
  go_enter Tryd.func15, Tryd.ntmps15
  go_wp2_with (refine Great.wpList_allocTo rfl (some 2) rfl (.pointer (some ⟨w.heap.size, 0, none⟩)) (.cells Z32 36) rfl ?_)
  generalize w.alloc (.cells Z32 36) = w1 at *
  have HS1 := Lib.hid hs1
  clear hs1
  refine (new_any w1 T1.out).mono ?_
  rintro e w2 ⟨rfl, hw2⟩
  have H2 : Hid (Holds w2 w1.heap.size []) := by rw [hw2]; exact Lib.hid (new_holds w1)
  have B2 : Hid (Below w1.heap.size w1 w2) := by rw [hw2]; exact Lib.hid ((Below.refl _ _).alloc (Nat.le_refl _) _)
  clear hw2
  have T2 := Lib.hid (T1.out.below B2.out)
  have BW := Lib.hid (Below.step B1.out B2.out)
  have A2 := Lib.hid (A1.out.below B2.out A1.out.lt)
  have AP : Hid (Apart w2 w1.heap.size a n zs) := Lib.hid ⟨HR.out.below BW.out, fun h0 => by
    obtain ⟨b, off, e, hb, _⟩ := HR.out.2.2 h0
    exact ⟨b, off, e, by have := HS1.out; omega⟩⟩
  clear B2 T1 A1 HR
  go_wp2_with fail
  refine (write_any w1.heap.size [] a n ca zs w2 H2.out (by have := HS1.out; omega) AP.out hca T2.out (by simp; omega)).mono ?_
  rintro e w3 ⟨rfl, hh3, hg3⟩
  rw [List.nil_append] at hh3
  have H3 : Hid (Holds w3 w1.heap.size zs) := Lib.hid hh3
  have B3 : Hid (Below w.heap.size w w3) := Lib.hid (BW.out.grown hg3 BW.out.size (fun k e => by have := HS1.out; simp at e; omega))
  have A3 : Hid (Blk w3 w.heap.size 36 Z32) := Lib.hid ((hg3.block _ (Blk.lt A2.out) (by have := HS1.out; simp; omega)).trans A2.out)
  have T3 := Lib.hid (T2.out.grown hg3 (by have := HS1.out; omega))
  clear hh3 hg3 H2 AP T2 A2 BW
  go_wp2_with fail
  refine (sum_any w1.heap.size zs w3 H3.out T3.out (by omega)).mono ?_
  rintro e w4 ⟨rfl, hb4⟩
  have A4 := Lib.hid (A3.out.below hb4 A3.out.lt)
  have B4 := Lib.hid (Below.step B3.out hb4)
  clear hb4 A3 B3 H3 T3
  generalize hashZ zs = hz at *
  go_wp2_with (refine wpList_store_rowTo rfl 36 (.tmp 2) (.tmp 9) rfl rfl w.heap.size (bcells hz) rfl rfl 36 Z32 A4.out (Tryd.size24 hz L32) (by rw [bcells_size hz L32]; rfl) (bcells_one hz) ?_)
  exact bodyPost_ret (results_cell_row rfl _ _ w.heap.size 36 (bcells hz) (0, 0) (.array 32 5) rfl (setRow_heap _ _ _ _ 36 _ A4.out) Tryd.underlying36 rfl (Tryd.size24 hz L32)) rfl ⟨rfl, below_setRow B4.out (Nat.le_refl _) _⟩

end Go.Proofs.YtdhablbfblkagaaDoor

namespace Go.Proofs.YtdhablbfblkagaaDoor
open Go.RowKit
set_option linter.unusedVariables false

theorem out_zero32 (w : World) : Out32 w (w.alloc (.cells #[] 23)) (.slice (some ⟨w.heap.size, 0, none⟩) 0 0) [] :=
  ⟨⟨rfl, .inr ⟨w.heap.size, 0, #[], rfl, Nat.le_refl _, heap_alloc_new w _, Nat.le_refl _, by unfold maxLen; omega, rfl, rfl⟩⟩, (Below.refl _ _).alloc (Nat.le_refl _) _⟩
theorem Out32.cell {W0 wr : World} {g cap n : Nat} {L : List Int} (h : Out32 W0 wr (.slice (some ⟨g, 0, none⟩) n cap) L) (j : Nat) (hj : j < L.length) : wr.cell? ⟨g, j, none⟩ = some (.int .u32 (L[j]?.getD 0)) ∧ wr.frozen? ⟨g, j, none⟩ = false := by
  have hn : n = L.length := by
    rcases h.1.2 with ⟨e, _⟩ | ⟨g, cap, cur, e, hb, _⟩
    · cases e
    · injection e
  subst hn
  refine ⟨?_, h.1.frozenAt j⟩
  rw [h.1.cellAt j (by omega), List.getElem?_map, List.getElem?_eq_getElem hj]
  rfl
theorem Out32.set {W0 wr : World} {g cap n : Nat} {L : List Int} (h : Out32 W0 wr (.slice (some ⟨g, 0, none⟩) n cap) L) (hg : W0.heap.size ≤ g) (j : Nat) (x : Int) : Out32 W0 (wr.setCell ⟨g, j, none⟩ (.int .u32 x)) (.slice (some ⟨g, 0, none⟩) n cap) (L.set j x) := by
  have hn : n = L.length := by
    rcases h.1.2 with ⟨e, _⟩ | ⟨g, cap, cur, e, hb, _⟩
    · cases e
    · injection e
  subst hn
  refine ⟨?_, h.2.setCell hg _⟩
  have := (h.1.stored j (.int .u32 x)).1
  rw [List.length_set, List.map_set]
  exact this
theorem Out32.drewN {W0 wr : World} {V : Value} {L : List Int} (h : Out32 W0 wr V L) (q : Nat) : Out32 W0 (wr.drewN q) V L := ⟨h.1, { h.2 with }⟩

end Go.Proofs.YtdhablbfblkagaaDoor

namespace Go.Proofs.YtdhablbfblkagaaDoor
open Go.RowKit

def B56 : Int := 72057594037927936

/-- Num's answer, from a number on. -/
def numZ : Int → List Int → Int × Bool
  | n, [] => (n, true)
  | n, x :: xs => if B56 ≤ n then (0, false) else numZ (n * 256 + x) xs

theorem numZ_drop {zs : List Int} {k : Nat} (s : Int) (h : k < zs.length) : numZ s (zs.drop k) = if B56 ≤ s then (0, false) else numZ (s * 256 + zs[k]?.getD 0) (zs.drop (k + 1)) := by
  rw [List.drop_eq_getElem_cons h, numZ]
  simp [List.getElem?_eq_getElem h]

theorem num_step {zs : List Int} {k : Nat} {s x : Int} (h : k < zs.length) (hx : x = zs[k]?.getD 0) (he : numZ s (zs.drop k) = numZ 0 zs) :
    (B56 ≤ s → numZ 0 zs = (0, false)) ∧ (s < B56 → numZ (s * 256 + x) (zs.drop (k + 1)) = numZ 0 zs) := by
  rw [numZ_drop s h, ← hx] at he
  refine ⟨fun hs => ?_, fun hs => ?_⟩
  · rw [← he, if_pos hs]
  · rw [if_neg (by omega)] at he
    exact he

theorem num_end {zs : List Int} {k : Nat} {s : Int} (h : zs.length ≤ k) (he : numZ s (zs.drop k) = numZ 0 zs) : numZ 0 zs = (s, true) := by
  rw [← he, List.drop_of_length_le h, numZ]

theorem top_set {s : Int} (h : (s / 72057594037927936 != 0) = true) (h0 : 0 ≤ s) : B56 ≤ s := by
  simp at h
  unfold B56
  omega
theorem top_clear {s : Int} (h : (s / 72057594037927936 != 0) = false) : s < B56 := by
  simp at h
  unfold B56
  omega

theorem or8 {s x : Int} (h0 : 0 ≤ s) (h : s < B56) (x0 : 0 ≤ x) (x1 : x ≤ 255) : bits .or .u64 (IntKind.u64.wrap (s * 256)) x = s * 256 + x := by
  unfold B56 at h
  have hw : ∀ n : Int, 0 ≤ n → n < 2 ^ 64 → IntKind.u64.wrap n = n := by
    intro n h0 h1
    rw [IntKind.wrap_u64]
    omega
  rw [hw _ (by omega) (by omega)]
  exact bits_join .u64 64 (by decide) hw 8 _ _ (by omega) (by omega) (by omega) x0 (by omega) (by omega)

theorem ret_num {zs : List Int} {n : Int} {b : Bool} (h : numZ 0 zs = (n, b)) : Ending.returned (.tuple #[.int .u64 n, .bool b]) = .returned (.tuple #[.int .u64 (numZ 0 zs).1, .bool (numZ 0 zs).2]) := by rw [h]

set_option maxHeartbeats 400000 in
theorem rnum_any (a : Option Addr) (n ca : Nat) (zs : List Int) (w : World) (hx : Row w a n zs) (hn : n ≤ 1000000) :
    Calls Tryd.prog 66 #[.slice a n ca] w fun e w' => e = .returned (.tuple #[.int .u64 (numZ 0 zs).1, .bool (numZ 0 zs).2]) ∧ w' = w := by
  have HX := Lib.hid hx
  clear hx
  go_enter Tryd.func66, Tryd.ntmps66
  go_wp2
  go_loop [4, 5] (fun t i => ∃ k : Nat, ∃ s : Int, k ≤ n ∧ 0 ≤ s ∧ s ≤ 18446744073709551615 ∧ i = .int .i64 k ∧ t = .int .u64 s ∧ numZ s (zs.drop k) = numZ 0 zs) (fun _ i => n - (intOf i).toNat)
  case atStart => exact ⟨0, 0, Nat.zero_le _, by omega, by omega, rfl, rfl, rfl⟩
  case round =>
    obtain ⟨k, s, hk, hs0, hs1, rfl, rfl, he⟩ := hrel
    have HE := Lib.hid he
    clear he
    by_cases hlt : k < n
    · obtain ⟨b1, o1, rfl, hb1, hc1⟩ := HX.out.2.2 (by omega)
      have c1 := hc1 k hlt
      clear hc1
      have bx := HX.out.byte k
      have ST := Lib.hid (num_step (by rw [HX.out.1]; exact hlt) rfl HE.out)
      generalize zs[k]?.getD 0 = x at c1 bx ST
      go_wp2
      · go_ret2
        exact ⟨ret_num (ST.out.1 (by unfold B56; assumption)), rfl⟩
      · have ht : s < B56 := by unfold B56; assumption
        go_round
        case rel => exact ⟨k + 1, _, by omega, by omega, by unfold B56 at ht; omega, by go_num, rfl, ST.out.2 ht⟩
        case measure => simp [intOf]; omega
    · go_wp2
      go_ret2
      exact ⟨ret_num (num_end (by rw [HX.out.1]; omega) HE.out), rfl⟩

end Go.Proofs.YtdhablbfblkagaaDoor

namespace Go.Proofs.YtdhablbfblkagaaDoor
open Go.RowKit
set_option linter.unusedVariables false

theorem num4 (a b c d : Int) (ha : 0 ≤ a ∧ a ≤ 255) (hb : 0 ≤ b ∧ b ≤ 255) (hc : 0 ≤ c ∧ c ≤ 255) (hd : 0 ≤ d ∧ d ≤ 255) : numZ 0 [a, b, c, d] = (((a * 256 + b) * 256 + c) * 256 + d, true) := by
  have B : B56 = 72057594037927936 := rfl
  rw [numZ, if_neg (by omega), numZ, if_neg (by omega), numZ, if_neg (by omega), numZ, if_neg (by omega), numZ]
  rw [show (0 : Int) * 256 + a = a by omega]
theorem four_of {zs : List Int} {i : Nat} (h : i + 4 ≤ zs.length) : (zs.drop i).take 4 = [zs[i]?.getD 0, zs[i + 1]?.getD 0, zs[i + 2]?.getD 0, zs[i + 3]?.getD 0] := by
  apply List.ext_getElem?
  intro j
  rw [List.getElem?_take]
  rcases j with _ | _ | _ | _ | j
  · simp [List.getElem?_eq_getElem (show i < zs.length by omega)]
  · simp [List.getElem?_eq_getElem (show i + 1 < zs.length by omega)]
  · simp [List.getElem?_eq_getElem (show i + 2 < zs.length by omega)]
  · simp [List.getElem?_eq_getElem (show i + 3 < zs.length by omega)]
  · simp
    omega
theorem num_word {zs : List Int} (h : ∀ x ∈ zs, 0 ≤ x ∧ x ≤ 255) (i : Nat) (hi : i + 4 ≤ zs.length) : numZ 0 ((zs.drop i).take 4) = (wordZ zs i, true) := by
  have g : ∀ k : Nat, 0 ≤ zs[k]?.getD 0 ∧ zs[k]?.getD 0 ≤ 255 := by
    intro k
    rcases Nat.lt_or_ge k zs.length with hk | hk
    · rw [List.getElem?_eq_getElem hk]
      exact h _ (List.getElem_mem hk)
    · rw [List.getElem?_eq_none hk]
      simp
  rw [four_of hi, num4 _ _ _ _ (g _) (g _) (g _) (g _)]
  rfl
theorem words_all {b : List Int} (h : ∀ x ∈ b, 0 ≤ x ∧ x ≤ 255) (k i : Nat) : W32 ((wordsZ8 b k)[i]?.getD 0) := by
  generalize hl : wordsZ8 b k = l
  have hr := words_range h k
  rw [hl] at hr
  rcases Nat.lt_or_ge i l.length with h | h
  · rw [List.getElem?_eq_getElem h]
    exact hr _ (List.getElem_mem h)
  · rw [List.getElem?_eq_none h]
    unfold W32
    simp

/-- Where through's loops over the words stand. -/
def WrdAt (w wr : World) (l : List Int) : Prop := Blk wr w.heap.size 88 (wcells l) ∧ Below w.heap.size w wr
theorem WrdAt.start (w : World) : WrdAt w (w.alloc (.cells Z64 88)) [] := ⟨Blk.new w _ _, (Below.refl _ _).alloc (Nat.le_refl _) _⟩
theorem WrdAt.drewN {w wr : World} {l : List Int} (h : WrdAt w wr l) (q : Nat) : WrdAt w (wr.drewN q) l := ⟨h.1, { h.2 with }⟩
theorem WrdAt.next {w wr : World} {l : List Int} (h : WrdAt w wr l) (x : Int) (k : Nat) (hk : k = l.length) (hl : k < 64) : WrdAt w (wr.setCell ⟨w.heap.size, k, none⟩ (.int .u32 x)) (l ++ [x]) := by
  subst hk
  refine ⟨?_, h.2.setCell (Nat.le_refl _) _⟩
  rw [← wcells_set l x hl]
  exact h.1.set _ _

/-- The first cells of a block stay. -/
def KeepB (g n : Nat) (a b : World) : Prop := ∀ i, i < n → b.cell? ⟨g, i, none⟩ = a.cell? ⟨g, i, none⟩
theorem KeepB.refl (g n : Nat) (w : World) : KeepB g n w w := fun _ _ => rfl
theorem KeepB.trans {g n : Nat} (a b c : World) (h : KeepB g n a b) (k : KeepB g n b c) : KeepB g n a c := fun i hi => (k i hi).trans (h i hi)
theorem KeepB.set (g n k : Nat) (w : World) (v : Value) (h : n ≤ k) : KeepB g n w (w.setCell ⟨g, k, none⟩ v) := fun i hi => World.cell?_setCell_other _ _ _ _ (fun e => by injection e with _ e; omega)
theorem rturni_any (x n : Int) (w : World) (hn : Turns n.toNat) (hn0 : 0 ≤ n) (h0 : 0 ≤ x) (h1 : x ≤ 4294967295) : Calls Tryd.prog 67 #[.int .u32 x, .int .i64 n] w fun e w' => e = .returned (.int .u32 (rotI x n)) ∧ ∃ q, w' = w.drewN q :=
  rturn_any x n n.toNat w (Int.toNat_of_nonneg hn0).symm hn h0 h1

theorem list_range {v : V8} (h : v.ok) : ∀ x ∈ v.list, 0 ≤ x ∧ x ≤ 4294967295 := by
  obtain ⟨ha, hb, hc, hd, he, hf, hg, hh⟩ := h
  intro x hx
  simp only [V8.list, List.mem_cons, List.not_mem_nil, or_false] at hx
  rcases hx with rfl | rfl | rfl | rfl | rfl | rfl | rfl | rfl
  all_goals assumption
/-- Where through's loop over the rounds stands. -/
def RndAt (w wr : World) (g3 : Nat) (V : Value) (s : V8) (l : List Int) : Prop :=
  Out32 w wr V s.list ∧ WrdAt w wr l ∧ Row32 wr (some ⟨g3, 0, none⟩) 64 CONSTS ∧ w.heap.size < wr.heap.size ∧ ∃ g cap, V = .slice (some ⟨g, 0, none⟩) 8 cap ∧ w.heap.size ≤ g
theorem RndAt.drewN {w wr : World} {g3 : Nat} {V : Value} {s : V8} {l : List Int} (h : RndAt w wr g3 V s l) (q : Nat) : RndAt w (wr.drewN q) g3 V s l :=
  ⟨h.1.drewN q, h.2.1.drewN q, h.2.2.1, h.2.2.2⟩
theorem words8_own (w wr : World) (s : V8) (hb : Below w.heap.size w wr) : Out32 w (wr.alloc (.cells s.cells 23)) (.slice (some ⟨wr.heap.size, 0, none⟩) 8 8) s.list :=
  ⟨⟨rfl, .inr ⟨wr.heap.size, 8, s.cells, rfl, hb.size, heap_alloc_new wr _, Nat.le_refl _, by unfold maxLen; omega, rfl, rfl⟩⟩, hb.alloc hb.size _⟩
theorem RndAt.next {w wr : World} {g3 : Nat} {V : Value} {s : V8} {l : List Int} (h : RndAt w wr g3 V s l) (s1 : V8) : RndAt w (wr.alloc (.cells s1.cells 23)) g3 (.slice (some ⟨wr.heap.size, 0, none⟩) 8 8) s1 l := by
  have hb := h.2.1.2
  have ba : Below wr.heap.size wr (wr.alloc (.cells s1.cells 23)) := (Below.refl _ _).alloc (Nat.le_refl _) _
  refine ⟨words8_own w wr s1 hb, ⟨h.2.1.1.alloc _, hb.alloc hb.size _⟩, h.2.2.1.below ba, Nat.lt_of_lt_of_le h.2.2.2.1 ba.size, wr.heap.size, 8, rfl, hb.size⟩
theorem RndAt.facts {w wr : World} {g3 g cap : Nat} {s : V8} {l : List Int} (h : RndAt w wr g3 (.slice (some ⟨g, 0, none⟩) 8 cap) s l) (k : Nat) (hk : k < 64) :
    wr.cell? ⟨g, 0, none⟩ = some (.int .u32 s.a) ∧ wr.cell? ⟨g, 1, none⟩ = some (.int .u32 s.b) ∧ wr.cell? ⟨g, 2, none⟩ = some (.int .u32 s.c) ∧ wr.cell? ⟨g, 3, none⟩ = some (.int .u32 s.d) ∧
    wr.cell? ⟨g, 4, none⟩ = some (.int .u32 s.e) ∧ wr.cell? ⟨g, 5, none⟩ = some (.int .u32 s.f) ∧ wr.cell? ⟨g, 6, none⟩ = some (.int .u32 s.g) ∧ wr.cell? ⟨g, 7, none⟩ = some (.int .u32 s.h) ∧
    wr.cell? ⟨w.heap.size, k, none⟩ = some (.int .u32 (l[k]?.getD 0)) ∧ wr.cell? ⟨g3, k, none⟩ = some (.int .u32 (CONSTS[k]?.getD 0)) := by
  refine ⟨(h.1.cell 0 (by show 0 < 8; omega)).1, (h.1.cell 1 (by show 1 < 8; omega)).1, (h.1.cell 2 (by show 2 < 8; omega)).1, (h.1.cell 3 (by show 3 < 8; omega)).1, (h.1.cell 4 (by show 4 < 8; omega)).1, (h.1.cell 5 (by show 5 < 8; omega)).1, (h.1.cell 6 (by show 6 < 8; omega)).1, (h.1.cell 7 (by show 7 < 8; omega)).1, (h.2.1.1.cell k).trans (wcells_get l k hk), ?_⟩
  obtain ⟨_, _, hgo, _, hcc⟩ := h.2.2.1.2.2 (by omega)
  injection hgo with hgo
  injection hgo with hgo1 hgo2
  subst hgo1 hgo2
  have e := hcc k hk
  rw [Nat.zero_add] at e
  exact e
theorem mixed_set (A B : List Int) (k : Nat) (hA : A.length = 8) (hB : B.length = 8) (hk : k < 8) : (A.take k ++ B.drop k).set k (A[k]?.getD 0) = A.take (k + 1) ++ B.drop (k + 1) := by
  have ht : (A.take k).length = k := by rw [List.length_take]; omega
  rw [List.set_append_right _ _ (by omega), ht, Nat.sub_self, List.drop_eq_getElem_cons (show k < B.length by omega), List.set_cons_zero, List.getElem?_eq_getElem (show k < A.length by omega), List.take_succ_eq_append_getElem (show k < A.length by omega), List.append_assoc]
  rfl
theorem mixed_get (A B : List Int) (k : Nat) (hA : A.length = 8) (hB : B.length = 8) (hk : k < 8) : (A.take k ++ B.drop k)[k]?.getD 0 = B[k]?.getD 0 := by
  have ht : (A.take k).length = k := by rw [List.length_take]; omega
  rw [List.getElem?_append_right (by omega), ht, Nat.sub_self, List.getElem?_drop, Nat.add_zero]
theorem addV_get (s v : V8) (k : Nat) (hk : k < 8) : (addV s v).list[k]?.getD 0 = m32 (s.list[k]?.getD 0 + v.list[k]?.getD 0) := by
  rcases k with _ | _ | _ | _ | _ | _ | _ | _ | k
  all_goals first | (exfalso; omega) | rfl

theorem wraps4 (A B C D : Int) : IntKind.u32.wrap (IntKind.u32.wrap (IntKind.u32.wrap (A + B) + C) + D) = m32 (A + B + C + D) := by
  simp only [IntKind.wrap_u32]
  unfold m32
  omega
set_option maxHeartbeats 1000000 in
set_option maxRecDepth 100000 in
theorem through_any (v : V8) (hv : v.ok) (a a2 : Option Addr) (ca cb : Nat) (zs : List Int) (w : World) (hs : Row32 w a 8 v.list) (hr : Row w a2 64 zs) (hcb : 64 ≤ cb) :
    Calls Tryd.prog 53 #[.slice a 8 ca, .slice a2 64 cb] w fun e w' => ∃ V, e = .returned V ∧ Out32 w w' V (blockV v zs).list := by
  have HB := Lib.hid hr.2.1
  have LZ := hr.1
  have RW := Lib.hid hr
  have RS := Lib.hid hs
  have OKV := Lib.hid hv
  obtain ⟨b, off, rfl, hb, hc⟩ := hr.2.2 (by omega)
  have W0 := Lib.hid (WrdAt.start w)
  clear hs hr hc hv
  go_enter Tryd.func53, Tryd.ntmps53
  go_wp2_with (refine Great.wpList_allocTo rfl (some 5) rfl (.pointer (some ⟨w.heap.size, 0, none⟩)) (.cells Z64 88) rfl ?_)
  generalize w.alloc (.cells Z64 88) = w0 at *
  go_loopw [6] (fun i wr => ∃ k : Nat, k ≤ 16 ∧ i = .int .i64 (k : Int) ∧ WrdAt w wr (wordsZ8 zs k)) (fun i _ => (17 - intOf i).toNat)
  case atStart => exact ⟨0, by omega, rfl, W0.out⟩
  case round =>
    obtain ⟨k, hk, rfl, he⟩ := hrel
    have E := Lib.hid he
    clear he W0
    by_cases hk2 : k < 16
    · have t0 : decide ((k : Int) < 16) = true := by simp; omega
      have RD := Lib.hid (((RW.out.below E.out.2).rest (4 * k) cb (by omega) hcb).first 4 (by omega))
      have h4 : IntKind.i64.wrap (4 * (k : Int)) = ((4 * k : Nat) : Int) := by rw [show ((4 * k : Nat) : Int) = 4 * (k : Int) by omega]; exact IntWalk.i64_in _ (by omega)
      have h8 : IntKind.i64.wrap (((4 * k : Nat) : Int) + 4) = ((4 * k + 4 : Nat) : Int) := by rw [show ((4 * k + 4 : Nat) : Int) = ((4 * k : Nat) : Int) + 4 by omega]; exact IntWalk.i64_in _ (by omega)
      have hne : ¬ cb = 4 * k := by omega
      have L := wordsZ8_len zs k
      rw [if_neg hne] at RD
      have CW := Lib.hid (rnum_any _ _ (cb - 4 * k) _ _ RD.out (by omega))
      rw [num_word HB.out (4 * k) (by omega)] at CW
      rw [Option.map_some, Addr.add_lit] at CW
      have wr32 := word_range HB.out (4 * k)
      have u32 : IntKind.u32.wrap (wordZ zs (4 * k)) = wordZ zs (4 * k) := IntWalk.u32_in _ (by unfold W32 at wr32; omega)
      have CC := (E.out.1.cell k).trans (wcells_get _ k (by omega))
      have FF := E.out.1.free k
      have EN : Hid (WrdAt w (wr.setCell ⟨w.heap.size, k, none⟩ (.int .u32 (wordZ zs (4 * k)))) (wordsZ8 zs (k + 1))) := by
        rw [words_first _ _ hk2]
        exact Lib.hid (E.out.next _ k L.symm (by omega))
      clear E RD L wr32
      generalize ho : 4 * k = o at *
      generalize wordZ zs o = x at *
      have kl : k < 64 := by omega
      have kI : (k : Int) < 64 := by omega
      have o1 : (o : Int) ≤ ((o + 4 : Nat) : Int) := by omega
      have o2 : ((o + 4 : Nat) : Int) ≤ (cb : Int) := by omega
      have o3 : o + 4 - o = 4 := by omega
      go_wp2_with fail
      refine CW.out.mono ?_
      rintro e w2 ⟨rfl, hw⟩
      subst hw
      go_wp2_with fail
      go_roundw
      case rel => exact ⟨k + 1, by omega, by first | rfl | go_num, EN.out⟩
      case measure => simp only [intOf]; omega
    · obtain rfl : k = 16 := by omega
      clear hk2
      rw [show ((16 : Nat) : Int) = 16 by rfl]
      go_wp2_with fail
      go_loopw [9] (fun i w2 => ∃ k : Nat, 16 ≤ k ∧ k ≤ 64 ∧ i = .int .i64 (k : Int) ∧ WrdAt w w2 (wordsZ8 zs k)) (fun i _ => (65 - intOf i).toNat)
      case atStart => exact ⟨16, by omega, by omega, rfl, E.out⟩
      case round =>
        obtain ⟨k, hk16, hk, rfl, he⟩ := hrel
        have E2 := Lib.hid he
        clear he E
        by_cases hk2 : k < 64
        · have WN := Lib.hid (words_next zs k hk16)
          have L := wordsZ8_len zs k
          have r := fun i => words_all HB.out k i
          obtain ⟨j, hj⟩ : ∃ j, k = j + 16 := ⟨k - 16, by omega⟩
          generalize hl1 : wordsZ8 zs (k + 1) = l1 at *
          have HL1 := Lib.hid hl1
          clear hl1
          generalize wordsZ8 zs k = l at *
          subst hj
          have t0 : decide ((j : Int) + 16 < 64) = true := by simp; omega
          have c0 := (E2.out.1.cell j).trans (wcells_get _ j (by omega))
          have c1 := (E2.out.1.cell (j + 1)).trans (wcells_get _ (j + 1) (by omega))
          have c9 := (E2.out.1.cell (j + 9)).trans (wcells_get _ (j + 9) (by omega))
          have c14 := (E2.out.1.cell (j + 14)).trans (wcells_get _ (j + 14) (by omega))
          have c16 := (E2.out.1.cell (j + 16)).trans (wcells_get _ (j + 16) (by omega))
          have f16 := E2.out.1.free (j + 16)
          have EN : Hid (∀ q, WrdAt w ((wr.drewN q).setCell ⟨w.heap.size, j + 16, none⟩ (.int .u32 (nextZ l (j + 16)))) l1) := by
            rw [WN.out]
            exact Lib.hid (fun q => (E2.out.drewN q).next _ (j + 16) L.symm (by omega))
          have N : nextZ l (j + 16) = m32 (l[j]?.getD 0 + lowS (l[j + 1]?.getD 0) + l[j + 9]?.getD 0 + highS (l[j + 14]?.getD 0)) := rfl
          rw [N] at EN
          have r0 := r j
          have r1 := r (j + 1)
          have r9 := r (j + 9)
          have r14 := r (j + 14)
          unfold W32 at r0 r1 r9 r14
          generalize l[j]?.getD 0 = x0 at *
          generalize l[j + 1]?.getD 0 = x1 at *
          generalize l[j + 9]?.getD 0 = x9 at *
          generalize l[j + 14]?.getD 0 = x14 at *
          generalize l[j + 16]?.getD 0 = x16 at *
          clear r N L WN E2
          rw [show ((j + 16 : Nat) : Int) = (j : Int) + 16 by omega]
          have e15 : IntKind.i64.wrap ((j : Int) + 16 - 15) = ((j + 1 : Nat) : Int) := by rw [show (j : Int) + 16 - 15 = (j : Int) + 1 by omega, Int.natCast_add]; exact IntWalk.i64_in _ (by omega)
          have e2 : IntKind.i64.wrap ((j : Int) + 16 - 2) = ((j + 14 : Nat) : Int) := by rw [show (j : Int) + 16 - 2 = (j : Int) + 14 by omega, Int.natCast_add]; exact IntWalk.i64_in _ (by omega)
          have e16 : IntKind.i64.wrap ((j : Int) + 16 - 16) = (j : Int) := by rw [show (j : Int) + 16 - 16 = (j : Int) by omega]; exact IntWalk.i64_in _ (by omega)
          have e7 : IntKind.i64.wrap ((j : Int) + 16 - 7) = ((j + 9 : Nat) : Int) := by rw [show (j : Int) + 16 - 7 = (j : Int) + 9 by omega, Int.natCast_add]; exact IntWalk.i64_in _ (by omega)
          go_wp2_with fail
          have wj : IntKind.i64.wrap (j : Int) = (j : Int) := IntWalk.i64_in _ (by omega)
          have w9 : IntKind.i64.wrap ((j : Int) + 9) = (j : Int) + 9 := IntWalk.i64_in _ (by omega)
          have w16 : IntKind.i64.wrap ((j : Int) + 16) = (j : Int) + 16 := IntWalk.i64_in _ (by omega)
          have b0 : (j : Int) < 64 := by omega
          have b9 : (j : Int) + 9 < 64 := by omega
          have b16 : (j : Int) + 16 < 64 := by omega
          have p9 : 0 ≤ (j : Int) + 9 := by omega
          have p16 : 0 ≤ (j : Int) + 16 := by omega
          have q9 : ((j : Int) + 9).toNat = j + 9 := by omega
          have q16 : ((j : Int) + 16).toNat = j + 16 := by omega
          have m0 : ∀ W, KeepB w.heap.size (j + 16) wr.drew W → W.cell? ⟨w.heap.size, j, none⟩ = some (.int .u32 x0) := fun W hW => (hW j (by omega)).trans c0
          have m9 : ∀ W, KeepB w.heap.size (j + 16) wr.drew W → W.cell? ⟨w.heap.size, j + 9, none⟩ = some (.int .u32 x9) := fun W hW => (hW (j + 9) (by omega)).trans c9
          refine wp_region_ord (KeepB w.heap.size (j + 16)) (KeepB.refl _ _) KeepB.trans ((0, false) :: (1, false) :: (2, false) :: (3, false) :: (4, false) :: (5, false) :: (7, false) :: (10, false) :: (11, false) :: (14, false) :: (15, false) :: (16, false) :: (17, false) :: (19, false) :: (21, false) :: (24, false) :: (25, false) :: (6, true) :: (8, true) :: (9, false) :: (12, false) :: (13, false) :: (18, false) :: (20, true) :: (22, true) :: (23, false) :: (26, false) :: (27, false) :: (28, false) :: (29, true) :: []) (by kernel_rfl) (by kernel_rfl) rfl (by kernel_rfl) (fun _ _ _ _ _ h => h) ?_
          repeat (refine ord_take _ rfl (by rfl) (fun W hW => by go_simp; first | done | rfl) ?_; simp only [Act.put, List.setIfInBounds_toArray, List.set_cons_zero, List.set_cons_succ])
          clear m0 m9
          refine ord_sole rfl (by rfl) (fun K1 hK1 => ?_)
          go_simp
          refine (rturni_any x1 7 _ (by unfold Turns; decide) (by decide) r1.1 r1.2).mono ?_
          rintro e w2 ⟨rfl, q1, hw⟩
          subst hw
          refine hK1 _ _ (fun _ _ => rfl) ?_
          clear hK1 K1
          refine ord_sole rfl (by rfl) (fun K1 hK1 => ?_)
          go_simp
          refine (rturni_any x1 18 _ (by unfold Turns; decide) (by decide) r1.1 r1.2).mono ?_
          rintro e w2 ⟨rfl, q2, hw⟩
          subst hw
          refine hK1 _ _ (fun _ _ => rfl) ?_
          clear hK1 K1
          repeat (refine ord_take _ rfl (by rfl) (fun W hW => by go_simp; first | done | rfl) ?_; simp only [Act.put, List.setIfInBounds_toArray, List.set_cons_zero, List.set_cons_succ])
          refine ord_sole rfl (by rfl) (fun K1 hK1 => ?_)
          go_simp
          refine (rturni_any x14 17 _ (by unfold Turns; decide) (by decide) r14.1 r14.2).mono ?_
          rintro e w2 ⟨rfl, q3, hw⟩
          subst hw
          refine hK1 _ _ (fun _ _ => rfl) ?_
          clear hK1 K1
          refine ord_sole rfl (by rfl) (fun K1 hK1 => ?_)
          go_simp
          refine (rturni_any x14 19 _ (by unfold Turns; decide) (by decide) r14.1 r14.2).mono ?_
          rintro e w2 ⟨rfl, q4, hw⟩
          subst hw
          refine hK1 _ _ (fun _ _ => rfl) ?_
          clear hK1 K1
          repeat (refine ord_take _ rfl (by rfl) (fun W hW => by go_simp; first | done | rfl) ?_; simp only [Act.put, List.setIfInBounds_toArray, List.set_cons_zero, List.set_cons_succ])
          refine ord_sole rfl (by rfl) (fun K1 hK1 => ?_)
          go_simp
          rw [wraps4]
          refine hK1 _ _ (KeepB.set _ _ _ _ _ (Nat.le_refl _)) ?_
          clear hK1 K1
          refine ord_end ?_
          go_wp2_with fail
          go_roundw
          case rel => exact ⟨j + 16 + 1, by omega, by omega, by first | rfl | go_num, by rw [HL1.out]; exact EN.out _⟩
          case measure => simp only [intOf]; omega
        · obtain rfl : k = 64 := by omega
          have L := wordsZ8_len zs 64
          have F : Hid (blockV v zs = addV (roundsV v (wordsZ8 zs 64) 64) v) := Lib.hid rfl
          have LR := Lib.hid (words_range HB.out 64)
          generalize wordsZ8 zs 64 = l at *
          clear hk16 hk2
          rw [show ((64 : Nat) : Int) = 64 by rfl]
          go_wp2_with fail
          refine (rconsts_any _).mono ?_
          rintro e w3 ⟨rfl, hw3⟩
          have B3 : Hid (Below wr.heap.size wr w3) := by rw [hw3]; exact Lib.hid ((Below.refl _ _).alloc (Nat.le_refl _) _)
          have C3 : Hid (Row32 w3 (some ⟨wr.heap.size, 0, none⟩) 64 CONSTS) := by rw [hw3]; exact Lib.hid (consts_row wr)
          clear hw3
          have ltw := E2.out.1.lt
          have lt3 : wr.heap.size ≤ w3.heap.size := B3.out.size
          have E3 : Hid (WrdAt w w3 l) := Lib.hid ⟨E2.out.1.below B3.out ltw, Below.step E2.out.2 B3.out⟩
          have R3 := Lib.hid (RS.out.below E3.out.2)
          have O3 := Lib.hid (out_zero32 w3)
          have R4 : Hid (Row32 (w3.alloc (.cells #[] 23)) a 8 v.list) := Lib.hid (R3.out.below ((Below.refl _ _).alloc (Nat.le_refl _) _))
          have NI : Hid (a = none → ca = 0) := Lib.hid (fun h => by obtain ⟨_, _, e, _⟩ := RS.out.2.2 (by omega); rw [h] at e; cases e)
          have HN : Hid (([] : List Int).length + 8 ≤ 1000000) := Lib.hid (by simp)
          clear B3 E2
          generalize wr.heap.size = g3 at *
          go_wp2_with (at_builtin; go_must (refine out_append32 (W0 := w3) (L := []) (zs := v.list) rfl _ _ rfl rfl O3.out rfl R4.out NI.out HN.out ?_; intro V4 w4 ho4; have O4 := Lib.hid ho4; clear ho4))
          have OV := O4.out
          rw [List.nil_append] at OV
          obtain ⟨g4, cap4, hV4, hg4⟩ := OV.form (by show 0 < 8; omega)
          have RA : Hid (RndAt w w4 g3 V4 v l) := Lib.hid ⟨OV.wider E3.out.2, ⟨E3.out.1.below OV.2 (by omega), Below.step E3.out.2 OV.2⟩, C3.out.below OV.2, Nat.lt_of_lt_of_le (by omega) OV.2.size, g4, cap4, hV4, by omega⟩
          clear OV hV4 hg4 O4 O3 R4 HN C3 E3 R3
          go_loopw [13, 14] (fun V i wr => ∃ k : Nat, k ≤ 64 ∧ i = .int .i64 (k : Int) ∧ RndAt w wr g3 V (roundsV v l k) l) (fun _ i _ => (65 - intOf i).toNat)
          case atStart => exact ⟨0, by omega, rfl, RA.out⟩
          case round =>
            obtain ⟨k, hk, rfl, hra⟩ := hrel
            have RB := Lib.hid hra
            clear hra RA
            by_cases hk2 : k < 64
            · have t0 : decide ((k : Int) < 64) = true := by simp; omega
              have kI : (k : Int) < 64 := by omega
              have kN : (0 : Int) ≤ (k : Int) := by omega
              have RN : Hid (roundsV v l (k + 1) = stepV (roundsV v l k) (CONSTS[k]?.getD 0) (l[k]?.getD 0)) := Lib.hid rfl
              have RO := ok_rounds OKV.out l k
              generalize hs1 : roundsV v l (k + 1) = s1 at *
              have HS1 := Lib.hid hs1
              clear hs1
              generalize roundsV v l k = s at *
              obtain ⟨g, cap, rfl, hgw⟩ := RB.out.2.2.2.2
              obtain ⟨c0, c1, c2, c3, c4, c5, c6, c7, d0, dc⟩ := RB.out.facts k hk2
              have F2 := fun q => (RB.out.drewN q).facts k hk2
              have RD := Lib.hid (fun q => RB.out.drewN q)
              obtain ⟨a1, b1, cc1, d1, e1, f1, g1, h1⟩ := s
              obtain ⟨ra, rb, rc, rd, re, rf, rg, rh⟩ := RO
              unfold W32 at ra rb rc rd re rf rg rh
              simp only at ra rb rc rd re rf rg rh c0 c1 c2 c3 c4 c5 c6 c7 F2
              generalize CONSTS[k]?.getD 0 = cc at *
              generalize l[k]?.getD 0 = ww at *
              have HF := Lib.hid F2
              clear F2 RB
              go_wp2_with fail
              go_quiet ((go_at_call 67; exact Calls.quiet_of (rturni_any _ _ _ (by unfold Turns; decide) (by decide) (by omega) (by omega))))
              have R2 := Lib.hid (RD.out nq)
              obtain ⟨c0, c1, c2, c3, c4, c5, c6, c7, d0, dc⟩ := HF.out nq
              clear HF RD
              generalize wr.drewN nq = wr2 at *
              have RD := Lib.hid (fun q => R2.out.drewN q)
              have HF := Lib.hid (fun q => (R2.out.drewN q).facts k hk2)
              clear R2
              go_wp2_with fail
              go_quiet ((go_at_call 67; exact Calls.quiet_of (rturni_any _ _ _ (by unfold Turns; decide) (by decide) (by omega) (by omega))))
              have R3 := Lib.hid (RD.out nq)
              obtain ⟨c0, c1, c2, c3, c4, c5, c6, c7, d0, dc⟩ := HF.out nq
              clear HF RD
              generalize wr2.drewN nq = wr3 at *
              go_wp2_with fail
              obtain ⟨p, hp⟩ : ∃ p, p = m32 (h1 + bigE e1 + choose e1 f1 g1 + cc + ww) := ⟨_, rfl⟩
              obtain ⟨q, hq⟩ : ∃ q, q = m32 (bigA a1 + most a1 b1 cc1) := ⟨_, rfl⟩
              have hp' : (h1 + bits .xor .u32 (bits .xor .u32 (rotI e1 6) (rotI e1 11)) (rotI e1 25) + bits .or .u32 (bits .and .u32 e1 f1) (bits .and .u32 (bits .xor .u32 IntKind.u32.max e1) g1) + cc + ww) % 4294967296 = p := hp.symm
              have hq' : (bits .xor .u32 (bits .xor .u32 (rotI a1 2) (rotI a1 13)) (rotI a1 22) + bits .or .u32 (bits .or .u32 (bits .and .u32 a1 b1) (bits .and .u32 a1 cc1)) (bits .and .u32 b1 cc1)) % 4294967296 = q := hq.symm
              rw [hp', hq']
              clear hp' hq'
              have S1 : Hid (s1 = ⟨m32 (p + q), a1, b1, cc1, m32 (d1 + p), e1, f1, g1⟩) := by
                rw [RN.out, hp, hq]
                exact Lib.hid rfl
              clear hp hq
              have wpq : IntKind.u32.wrap (p + q) = m32 (p + q) := wrap_m32 _
              have wdp : IntKind.u32.wrap (d1 + p) = m32 (d1 + p) := wrap_m32 _
              generalize m32 (p + q) = P at *
              generalize m32 (d1 + p) = D at *
              have n0 := cell_later c0
              have n1 := cell_later c1
              have n2 := cell_later c2
              have n3 := cell_later c3
              have n4 := cell_later c4
              have n5 := cell_later c5
              have n6 := cell_later c6
              refine wp_region_ord Ext Ext.refl (fun _ _ _ => Ext.trans) ((0, false) :: (1, false) :: (2, false) :: (3, false) :: (4, false) :: (5, false) :: (6, false) :: (7, false) :: (8, false) :: (9, false) :: (10, false) :: (11, false) :: (12, false) :: (13, false) :: (14, false) :: (15, false) :: (16, false) :: (17, false) :: (18, false) :: (19, false) :: (20, false) :: (21, false) :: (22, false) :: (23, false) :: (24, false) :: (25, false) :: (26, true) :: (27, false) :: []) (by kernel_rfl) (by kernel_rfl) rfl (by kernel_rfl) (fun _ _ _ _ _ h => h) ?_
              repeat (refine ord_take _ rfl (by rfl) (fun W hW => by go_simp; first | done | rfl) ?_; simp only [Act.put, List.setIfInBounds_toArray, List.set_cons_zero, List.set_cons_succ])
              clear n0 n1 n2 n3 n4 n5 n6
              refine ord_sole rfl (by rfl) (fun K1 hK1 => ?_)
              go_simp
              have EX : ∀ o : Obj, Ext wr3.drew (wr3.alloc o).drew := fun o => by
                have h := (Below.refl wr3.heap.size wr3).alloc (Nat.le_refl _) o
                exact ⟨h.os, h.tape, h.output, h.size, h.block⟩
              refine hK1 _ _ (EX _) ?_
              clear hK1 K1 EX
              repeat (refine ord_take _ rfl (by rfl) (fun W hW => by go_simp; first | done | rfl) ?_; simp only [Act.put, List.setIfInBounds_toArray, List.set_cons_zero, List.set_cons_succ])
              refine ord_end ?_
              have N4 := Lib.hid ((R3.out.next ⟨P, a1, b1, cc1, D, e1, f1, g1⟩).drewN 1)
              clear c0 c1 c2 c3 c4 c5 c6 c7 d0 dc
              go_wp2_with fail
              go_roundw
              case rel => exact ⟨k + 1, by omega, by first | rfl | go_num, by rw [HS1.out, S1.out]; exact N4.out⟩
              case measure => simp only [intOf]; omega
            · obtain rfl : k = 64 := by omega
              have F2 : Hid (blockV v zs = addV (roundsV v l 64) v) := F
              have OKS := Lib.hid (ok_rounds OKV.out l 64)
              generalize roundsV v l 64 = s at *
              obtain ⟨g, cap, rfl, hgw⟩ := RB.out.2.2.2.2
              have RS0 := Lib.hid (RS.out.below RB.out.2.1.2)
              have OO := Lib.hid RB.out.1
              have O0 : Hid (Out32 w wr (.slice (some ⟨g, 0, none⟩) 8 cap) ((addV s v).list.take 0 ++ s.list.drop 0)) := Lib.hid OO.out
              clear hk2 RB OO RS0
              rw [show ((64 : Nat) : Int) = 64 by rfl]
              obtain ⟨ab, ao, hae, halt, _⟩ := RS.out.2.2 (by omega)
              subst hae
              go_wp2_with fail
              go_loopw [19] (fun i w5 => ∃ k : Nat, k ≤ 8 ∧ i = .int .i64 (k : Int) ∧ Out32 w w5 (.slice (some ⟨g, 0, none⟩) 8 cap) ((addV s v).list.take k ++ s.list.drop k)) (fun i _ => (9 - intOf i).toNat)
              case atStart => exact ⟨0, by omega, rfl, O0.out⟩
              case round =>
                obtain ⟨k, hk, rfl, hoo⟩ := hrel
                have OB := Lib.hid hoo
                clear hoo O0
                by_cases hk2 : k < 8
                · have t0 : decide ((k : Int) < 8) = true := by simp; omega
                  have hA : (addV s v).list.length = 8 := rfl
                  have hS : s.list.length = 8 := rfl
                  have hll : ((addV s v).list.take k ++ s.list.drop k).length = 8 := by simp only [List.length_append, List.length_take, List.length_drop]; omega
                  obtain ⟨c0, f0⟩ := OB.out.cell k (by omega)
                  rw [mixed_get _ _ _ hA hS hk2] at c0
                  have AR := RS.out.below OB.out.2
                  obtain ⟨_, _, hae, _, hac⟩ := AR.2.2 (by omega)
                  injection hae with hae
                  injection hae with hae1 hae2
                  subst hae1 hae2
                  have a0 := hac k hk2
                  have AG := addV_get s v k hk2
                  have MS := mixed_set (addV s v).list s.list k hA hS hk2
                  rw [AG] at MS
                  have ST := fun x => OB.out.set hgw k x
                  have r0 := list_range OKS.out (s.list[k]?.getD 0) (by rw [List.getElem?_eq_getElem (show k < s.list.length by omega)]; exact List.getElem_mem _)
                  have r1 := AR.num k
                  generalize s.list[k]?.getD 0 = x at *
                  generalize v.list[k]?.getD 0 = y at *
                  have NX : Hid (Out32 w ((wr.setCell ⟨g, k, none⟩ (.int .u32 (m32 (x + y)))).drewN 1) (.slice (some ⟨g, 0, none⟩) 8 cap) ((addV s v).list.take (k + 1) ++ s.list.drop (k + 1))) := by
                    rw [← MS]
                    exact Lib.hid ((ST (m32 (x + y))).drewN 1)
                  clear MS ST AG OB AR hac hll
                  have kI : (k : Int) < 8 := by omega
                  have kN : (0 : Int) ≤ (k : Int) := by omega
                  have wxy : IntKind.u32.wrap (x + y) = m32 (x + y) := wrap_m32 _
                  generalize m32 (x + y) = z at *
                  go_wp2_with fail
                  go_region
                  go_wp2_with fail
                  go_roundw
                  case rel => exact ⟨k + 1, by omega, by first | rfl | go_num, NX.out⟩
                  case measure => simp only [intOf]; omega
                · obtain rfl : k = 8 := by omega
                  have OE : Hid (Out32 w wr (.slice (some ⟨g, 0, none⟩) 8 cap) (blockV v zs).list) := by rw [F2.out]; exact Lib.hid OB.out
                  clear OB
                  rw [show ((8 : Nat) : Int) = 8 by rfl]
                  go_wp2_with fail
                  go_ret
                  exact ⟨_, rfl, OE.out⟩

end Go.Proofs.YtdhablbfblkagaaDoor

namespace Go.Proofs.YtdhablbfblkagaaDoor
open Go.RowKit
set_option linter.unusedVariables false

theorem H0_lit : (⟨0x6a09e667, 0xbb67ae85, 0x3c6ef372, 0xa54ff53a, 0x510e527f, 0x9b05688c, 0x1f83d9ab, 0x5be0cd19⟩ : V8) = H0 := rfl
theorem out_at (v : V8) (q : Nat) (hq : q < 8) : (outV v)[4 * q]?.getD 0 = v.list[q]?.getD 0 / 16777216 % 256 ∧ (outV v)[4 * q + 1]?.getD 0 = v.list[q]?.getD 0 / 65536 % 256 ∧ (outV v)[4 * q + 2]?.getD 0 = v.list[q]?.getD 0 / 256 % 256 ∧ (outV v)[4 * q + 3]?.getD 0 = v.list[q]?.getD 0 % 256 := by
  have e : outV v = beZ 4 v.a ++ beZ 4 v.b ++ beZ 4 v.c ++ beZ 4 v.d ++ beZ 4 v.e ++ beZ 4 v.f ++ beZ 4 v.g ++ beZ 4 v.h := by
    unfold outV V8.list
    simp
  rw [e, be4, be4, be4, be4, be4, be4, be4, be4]
  rcases q with _ | _ | _ | _ | _ | _ | _ | _ | q
  all_goals first | (exfalso; omega) | exact ⟨rfl, rfl, rfl, rfl⟩
theorem out_len (v : V8) : (outV v).length = 32 := by
  unfold outV V8.list
  simp [beZ_length]
theorem take_next (l : List Int) (k : Nat) (hk : k < l.length) : l.take (k + 1) = l.take k ++ [l[k]?.getD 0] := by
  rw [List.take_succ_eq_append_getElem hk, List.getElem?_eq_getElem hk]
  rfl

theorem Row32.setFar {w : World} {g S n j : Nat} {zs : List Int} {v : Value} (h : Row32 w (some ⟨g, 0, none⟩) n zs) (hne : g ≠ S) (hn : 0 < n) : Row32 (w.setCell ⟨S, j, none⟩ v) (some ⟨g, 0, none⟩) n zs := by
  refine ⟨h.1, h.2.1, fun _ => ?_⟩
  obtain ⟨b, off, e, hb, hc⟩ := h.2.2 hn
  injection e with e
  injection e with e1 e2
  subst e1 e2
  refine ⟨g, 0, rfl, by simpa using hb, fun i hi => ?_⟩
  rw [World.cell?_setCell_other _ _ _ _ (fun e => by injection e with e; exact hne e.symm)]
  exact hc i hi
theorem SumAt.put {w wr : World} {S : Nat} {L : List Int} {k : Nat} (h : SumAt w wr S (L.take k)) (hL : L.length = 32) (hk : k < 32) (hS : w.heap.size < S) : SumAt w (wr.setCell ⟨S, k, none⟩ (.int .u8 (L[k]?.getD 0))) S (L.take (k + 1)) := by
  refine ⟨h.1.far (by omega) _ _, ?_, h.2.2.setCell (by show w.heap.size ≤ S; omega) _⟩
  have ht : (L.take k).length = k := by rw [List.length_take]; omega
  have e := h.2.1.set k (.int .u8 (L[k]?.getD 0))
  rw [bcells_set _ _ _ ht.symm (by omega), ← take_next L k (by omega)] at e
  exact e
/-- Where the reference's Of stands, going through the blocks. -/
def GoAt (w wr : World) (af : Option Addr) (cf : Nat) (fl : List Int) (V : Value) (s : V8) : Prop :=
  (∃ g cap, V = .slice (some ⟨g, 0, none⟩) 8 cap ∧ Row32 wr (some ⟨g, 0, none⟩) 8 s.list) ∧ Row wr af fl.length fl ∧ Blk wr w.heap.size 36 Z32 ∧ Below w.heap.size w wr ∧ w.heap.size < wr.heap.size

set_option maxHeartbeats 1000000 in
set_option maxRecDepth 100000 in
theorem rof_any (a : Option Addr) (n ca : Nat) (zs : List Int) (w : World) (hr : Row w a n zs) (hn : n ≤ 100000) (hnil : a = none → ca = 0) : Calls Tryd.prog 30 #[.slice a n ca] w (GivesHash (hashZ zs) w) := by
  have BR : Hid (Below w.heap.size w ((w.alloc (.cells Z32 36)).alloc (.cells H0.cells 23))) := Lib.hid (((Below.refl _ _).alloc (Nat.le_refl _) _).alloc (by simp) _)
  have BA : Hid (Blk ((w.alloc (.cells Z32 36)).alloc (.cells H0.cells 23)) w.heap.size 36 Z32) := Lib.hid ((Blk.new w _ _).alloc _)
  have BH : Hid (Row32 ((w.alloc (.cells Z32 36)).alloc (.cells H0.cells 23)) (some ⟨(w.alloc (.cells Z32 36)).heap.size, 0, none⟩) 8 H0.list) := Lib.hid (row32_const (w.alloc (.cells Z32 36)) H0.list (list_range ok_H0))
  have hs1 : (w.alloc (.cells Z32 36)).heap.size = w.heap.size + 1 := by simp
  rw [hs1] at BH
  have CF := Lib.hid (fun W (hb : Below w.heap.size w W) => rfilled_any a n ca zs W (hr.below hb) hn hnil)
  have FB := Lib.hid (fill_byte hr.2.1)
  have hzn := hr.1
  have FL := (fill_len zs).1
  have FLB : (fillZ zs).length ≤ 200000 := by
    have := (fill_len zs).1
    have := pad_le zs.length
    omega
  have HX : Hid (hashZ zs = outV (runV ((fillZ zs).length / 64) H0 (fillZ zs))) := Lib.hid rfl
  clear hr hnil
  generalize hfl : fillZ zs = fl at *
  clear hfl
  generalize hashZ zs = hz at *
  generalize (zs.length + 9 + padN zs.length) / 64 = m at *
  have HFL := Lib.hid FL
  clear FL
  simp only [V8.cells, H0] at BR BA BH
  go_enter Tryd.func30, Tryd.ntmps30
  go_wp2_with (refine Great.wpList_allocTo rfl (some 2) rfl (.pointer (some ⟨w.heap.size, 0, none⟩)) (.cells Z32 36) rfl ?_)
  rw [H0_lit] at BH
  generalize (w.alloc (.cells Z32 36)).alloc (.cells #[.int .u32 1779033703, .int .u32 3144134277, .int .u32 1013904242, .int .u32 2773480762, .int .u32 1359893119, .int .u32 2600822924, .int .u32 528734635, .int .u32 1541459225] 23) = w1 at *
  clear hs1
  refine (CF.out _ BR.out).mono ?_
  intro e w2 h2
  obtain ⟨af, cf, rfl, hrf, hnf, hcf, hbf⟩ := h2.row FB.out
  have BF := Lib.hid hbf
  have ltR := BA.out.lt
  have G0 : Hid (GoAt w w2 af cf fl (.slice (some ⟨w.heap.size + 1, 0, none⟩) 8 8) (runV 0 H0 fl)) := Lib.hid ⟨⟨_, _, rfl, BH.out.below hbf⟩, hrf, BA.out.below hbf ltR, Below.step BR.out hbf, Nat.lt_of_lt_of_le ltR hbf.size⟩
  clear h2 hrf hbf CF BR BA BH BF ltR hnf
  go_wp2_with fail
  go_loopw [3, 5] (fun V i wr => ∃ j : Nat, 64 * j ≤ fl.length ∧ i = .int .i64 ((64 * j : Nat) : Int) ∧ GoAt w wr af cf fl V (runV j H0 fl)) (fun _ i _ => (200001 - intOf i).toNat)
  case atStart => exact ⟨0, by omega, rfl, G0.out⟩
  case round =>
    obtain ⟨j, hj, rfl, hg⟩ := hrel
    have GB := Lib.hid hg
    clear hg G0
    have OKJ := ok_run j fl ok_H0
    by_cases hlt : 64 * j < fl.length
    · have t0 : decide (((64 * j : Nat) : Int) < (fl.length : Int)) = true := by simp; omega
      have jl : 64 * (j + 1) ≤ fl.length := by have := HFL.out; omega
      have RL := Lib.hid (runV_last j H0 fl)
      generalize hs1 : runV (j + 1) H0 fl = s1 at *
      have HS1 := Lib.hid hs1
      clear hs1
      generalize runV j H0 fl = s at *
      obtain ⟨⟨g, cap, rfl, hrow⟩, hrf, hbz, hbl, hlz⟩ := GB.out
      have HROW := Lib.hid hrow
      have RF := Lib.hid ((hrf.rest (64 * j) cf (by omega) hcf).first 64 (by omega))
      obtain ⟨fb, fo, rfl, hfb, _⟩ := hrf.2.2 (by omega)
      clear hrow hrf hbz hbl hlz
      generalize ho : 64 * j = o at *
      have hne : ¬ cf = o := by omega
      rw [if_neg hne, Option.map_some, Addr.add_lit] at RF
      have e1 : IntKind.i64.wrap ((o : Int) + 64) = ((o + 64 : Nat) : Int) := by rw [Int.natCast_add]; exact IntWalk.i64_in _ (by omega)
      have o1 : (o : Int) ≤ ((o + 64 : Nat) : Int) := by omega
      have o2 : ((o + 64 : Nat) : Int) ≤ (cf : Int) := by omega
      have o3 : o + 64 - o = 64 := by omega
      have o4 : 64 ≤ cf - o := by omega
      have CT := Lib.hid (through_any s OKJ (some ⟨g, 0, none⟩) (some ⟨fb, fo + o, none⟩) cap (cf - o) ((fl.drop o).take 64) wr HROW.out RF.out o4)
      rw [← RL.out] at CT
      clear RL
      have D0 : decide ((o : Int) < (fl.length : Int)) = true := t0
      go_wp2_with fail
      refine CT.out.mono ?_
      rintro e w3 ⟨V3, rfl, ho3⟩
      obtain ⟨g5, cap5, rfl, hg5⟩ := ho3.form (by show 0 < 8; omega)
      obtain ⟨a6, c6, ha6, hr6⟩ := ho3.row (list_range (by rw [← HS1.out]; exact ok_run _ _ ok_H0))
      injection ha6 with ha6 _ hc6
      subst ha6 hc6
      have B3 := ho3.2
      have G2 : Hid (GoAt w w3 (some ⟨fb, fo, none⟩) cf fl (.slice (some ⟨g5, 0, none⟩) 8 cap5) s1) := by
        obtain ⟨_, hrf, hbz, hbl, hlz⟩ := GB.out
        exact Lib.hid ⟨⟨_, _, rfl, hr6⟩, hrf.below B3, hbz.below B3 hlz, Below.step hbl B3, Nat.lt_of_lt_of_le hlz B3.size⟩
      clear ho3 hr6 B3 GB HROW RF CT
      go_wp2_with fail
      go_roundw
      case rel => exact ⟨j + 1, jl, by rw [show 64 * (j + 1) = o + 64 by omega]; first | rfl | go_num, by rw [HS1.out]; exact G2.out⟩
      case measure => simp only [intOf]; omega
    · have je : fl.length / 64 = j := by have := HFL.out; omega
      have F : Hid (hz = outV (runV j H0 fl)) := by rw [← je]; exact HX
      have t0 : decide (((64 * j : Nat) : Int) < (fl.length : Int)) = false := by simp; omega
      generalize runV j H0 fl = s at *
      obtain ⟨⟨g, cap, rfl, hrow⟩, hrf, hbz, hbl, ltS⟩ := GB.out
      have HROW := Lib.hid hrow
      have HBZ := Lib.hid hbz
      have HBL := Lib.hid hbl
      clear hrow hrf hbz hbl je GB HX
      generalize ho : 64 * j = o at *
      clear ho
      go_wp2_with (refine Great.wpList_allocTo rfl (some 6) rfl (.pointer (some ⟨wr.heap.size, 0, none⟩)) (.cells Z32 36) rfl ?_)
      have OL := out_len s
      have S0 : Hid (SumAt w (wr.alloc (.cells Z32 36)) wr.heap.size ((outV s).take 0)) := Lib.hid ⟨HBZ.out.alloc _, Blk.new wr _ _, HBL.out.alloc HBL.out.size _⟩
      have R0 : Hid (Row32 (wr.alloc (.cells Z32 36)) (some ⟨g, 0, none⟩) 8 s.list) := Lib.hid (HROW.out.below ((Below.refl _ _).alloc (Nat.le_refl _) _))
      have gS : g < wr.heap.size := by
        obtain ⟨_, _, e, hb, _⟩ := HROW.out.2.2 (by omega)
        injection e with e
        injection e with e1 _
        omega
      clear HBZ HROW HBL
      generalize wr.alloc (.cells Z32 36) = w5 at *
      generalize wr.heap.size = S at *
      go_loopw [7] (fun i wr => ∃ k : Nat, k ≤ 32 ∧ i = .int .i64 (k : Int) ∧ SumAt w wr S ((outV s).take k) ∧ Row32 wr (some ⟨g, 0, none⟩) 8 s.list) (fun i _ => (33 - intOf i).toNat)
      case atStart => exact ⟨0, by omega, rfl, S0.out, R0.out⟩
      case round =>
        obtain ⟨k, hk, rfl, hsa, hrw⟩ := hrel
        have SA := Lib.hid hsa
        have RW := Lib.hid hrw
        clear hsa hrw S0 R0
        by_cases hk2 : k < 32
        · have t0 : decide ((k : Int) < 32) = true := by simp; omega
          have kI : (k : Int) < 32 := by omega
          obtain ⟨q, hq⟩ : ∃ q, q = k / 4 := ⟨_, rfl⟩
          obtain ⟨r, hr⟩ : ∃ r, r = k % 4 := ⟨_, rfl⟩
          have hqr : k = 4 * q + r := by omega
          have q8 : q < 8 := by omega
          have r4 : r < 4 := by omega
          have d1 : (k : Int).tdiv 4 = (q : Int) := by rw [Int.tdiv_eq_ediv_of_nonneg (by omega)]; omega
          have d2 : (k : Int).tmod 4 = (r : Int) := by rw [Int.tmod_eq_emod_of_nonneg (by omega)]; omega
          have qI : (q : Int) < 8 := by omega
          obtain ⟨_, _, hge, _, hgc⟩ := RW.out.2.2 (by omega)
          injection hge with hge
          injection hge with hge1 hge2
          subst hge1 hge2
          have c0 := hgc q q8
          rw [Nat.zero_add] at c0
          have xr := RW.out.num q
          obtain ⟨a0, a1, a2, a3⟩ := out_at s q q8
          have cS := (SA.out.2.1.cell k).trans (bcells_get _ k hk2)
          have fS := SA.out.2.1.free k
          have NX := Lib.hid (SA.out.put OL hk2 ltS)
          have NR := Lib.hid (fun v => RW.out.setFar (j := k) (v := v) (Nat.ne_of_lt gS) (by omega))
          generalize s.list[q]?.getD 0 = x at *
          clear hgc SA RW hq hr
          have r_is : r = 0 ∨ r = 1 ∨ r = 2 ∨ r = 3 := by omega
          rcases r_is with rfl | rfl | rfl | rfl
          · have EV : (outV s)[k]?.getD 0 = x / 16777216 := by rw [hqr]; exact a0.trans (by omega)
            rw [EV] at NX
            have d2' : (k : Int).tmod 4 = 0 := d2
            clear d2 a0 a1 a2 a3 EV hqr
            go_wp2_with fail
            go_roundw
            case rel => exact ⟨k + 1, by omega, by first | rfl | go_num, NX.out, NR.out _⟩
            case measure => simp only [intOf]; omega
          · have EV : (outV s)[k]?.getD 0 = x / 65536 % 256 := by rw [hqr]; exact a1
            rw [EV] at NX
            have d2' : (k : Int).tmod 4 = 1 := d2
            clear d2 a0 a1 a2 a3 EV hqr
            go_wp2_with fail
            go_roundw
            case rel => exact ⟨k + 1, by omega, by first | rfl | go_num, NX.out, NR.out _⟩
            case measure => simp only [intOf]; omega
          · have EV : (outV s)[k]?.getD 0 = x / 256 % 256 := by rw [hqr]; exact a2
            rw [EV] at NX
            have d2' : (k : Int).tmod 4 = 2 := d2
            clear d2 a0 a1 a2 a3 EV hqr
            go_wp2_with fail
            go_roundw
            case rel => exact ⟨k + 1, by omega, by first | rfl | go_num, NX.out, NR.out _⟩
            case measure => simp only [intOf]; omega
          · have EV : (outV s)[k]?.getD 0 = x % 256 := by rw [hqr]; exact a3
            rw [EV] at NX
            have d2' : (k : Int).tmod 4 = 3 := d2
            clear d2 a0 a1 a2 a3 EV hqr
            go_wp2_with fail
            go_roundw
            case rel => exact ⟨k + 1, by omega, by first | rfl | go_num, NX.out, NR.out _⟩
            case measure => simp only [intOf]; omega
        · obtain rfl : k = 32 := by omega
          have E : (outV s).take 32 = hz := by rw [F.out]; exact List.take_of_length_le (by omega)
          rw [E] at SA
          have L32 : hz.length ≤ 32 := by rw [F.out]; omega
          have KA := Lib.hid SA.out.1
          have KS := Lib.hid SA.out.2.1
          have KW := Lib.hid SA.out.2.2
          clear SA RW F E
          rw [show ((32 : Nat) : Int) = 32 by rfl]
          go_wp2_with (first
            | (refine wpList_load_row rfl 36 (.tmp 6) rfl S rfl 36 (bcells hz) (0, 0) (.array 32 5) KS.out Tryd.underlying36 rfl (Tryd.size24 hz L32) ?_)
            | (refine wpList_store_rowTo rfl 36 (.tmp 2) (.tmp 41) rfl rfl w.heap.size (bcells hz) rfl rfl 36 Z32 KA.out (Tryd.size24 hz L32) (by rw [bcells_size hz L32]; rfl) (bcells_one hz) ?_))
          exact bodyPost_ret (results_cell_row rfl _ _ w.heap.size 36 (bcells hz) (0, 0) (.array 32 5) rfl (setRow_heap _ _ _ _ 36 _ KA.out) Tryd.underlying36 rfl (Tryd.size24 hz L32)) rfl ⟨rfl, below_setRow KW.out (Nat.le_refl _) _⟩

end Go.Proofs.YtdhablbfblkagaaDoor

namespace Go.Proofs.YtdhablbfblkagaaDoor
open Go.RowKit
set_option linter.unusedVariables false

theorem Tryd.info5s : (Tryd.prog.info? 5).isSome = true := by kernel_rfl
theorem Tryd.cells5 : Tryd.prog.cellsOf 5 = 1 := by kernel_rfl
theorem part5 (xs : Array Value) (j : Nat) (v : Int) (h : xs[j]? = some (.int .u8 v)) (w : World) : (part 5 xs j).run Tryd.prog w = .ok (.int .u8 v) w := by
  simp [part, h, go_sem]
theorem eq_items (zs : List Int) (w : World) : ∀ js : List Nat, (∀ j ∈ js, j < 32) → (Op.eqItems 9999 5 1 (bcells zs) (bcells zs) js).run Tryd.prog w = .ok true w := by
  intro js
  induction js with
  | nil => intro _; simp [Op.eqItems]
  | cons j js ih =>
    intro h
    have hj := bcells_get zs j (h j (by simp))
    have q : ∀ (a b : Int) (w : World), (Op.equalIn 9999 5 (.int .u8 a) (.int .u8 b)).run Tryd.prog w = .ok (a == b) w := fun a b w => run_equalIn_int w 9998 5 .u8 .u8 a b Tryd.underlying5
    simp only [Op.eqItems, Sem.run_bind, Nat.mul_one, part5 _ j _ hj, q, Result.andThen_ok]
    simpa using ih (fun i hi => h i (by simp [hi]))
theorem same_hash (zs : List Int) (w : World) : (Op.equalIn 10000 36 (.agg (bcells zs)) (.agg (bcells zs))).run Tryd.prog w = .ok true w := by
  obtain ⟨i0, hi⟩ := Option.isSome_iff_exists.1 Tryd.info5s
  rw [run_equalIn_array w 9999 _ _ Tryd.underlying36 hi, Tryd.cells5]
  exact eq_items zs w _ (fun j hj => List.mem_range.1 hj)

theorem eq_items2 (xs ys : List Int) (w : World) : ∀ js : List Nat, (∀ j ∈ js, j < 32) → (Op.eqItems 9999 5 1 (bcells xs) (bcells ys) js).run Tryd.prog w = .ok (js.all fun j => xs[j]?.getD 0 == ys[j]?.getD 0) w := by
  intro js
  induction js with
  | nil => intro _; simp [Op.eqItems]
  | cons j js ih =>
    intro h
    have hj := bcells_get xs j (h j (by simp))
    have hk := bcells_get ys j (h j (by simp))
    have q : ∀ (a b : Int) (w : World), (Op.equalIn 9999 5 (.int .u8 a) (.int .u8 b)).run Tryd.prog w = .ok (a == b) w := fun a b w => run_equalIn_int w 9998 5 .u8 .u8 a b Tryd.underlying5
    simp only [Op.eqItems, Sem.run_bind, Nat.mul_one, part5 _ j _ hj, part5 _ j _ hk, q, Result.andThen_ok]
    have e := ih (fun i hi => h i (by simp [hi]))
    cases hb : (xs[j]?.getD 0 == ys[j]?.getD 0) with
    | true => simpa [hb] using e
    | false => simp [hb]
/-- Hashes compared. -/
theorem two_hash (xs ys : List Int) (hx : xs.length = 32) (hy : ys.length = 32) (w : World) : (Op.equalIn 10000 36 (.agg (bcells xs)) (.agg (bcells ys))).run Tryd.prog w = .ok (decide (xs = ys)) w := by
  have hd : ((List.range 32).all fun j => xs[j]?.getD 0 == ys[j]?.getD 0) = decide (xs = ys) := by
    rw [Bool.eq_iff_iff, decide_eq_true_iff, List.all_eq_true]
    constructor
    · intro h
      apply List.ext_getElem?
      intro j
      rcases Nat.lt_or_ge j 32 with hj | hj
      · have := h j (List.mem_range.2 hj)
        rw [List.getElem?_eq_getElem (by omega), List.getElem?_eq_getElem (by omega)] at this ⊢
        simpa using this
      · rw [List.getElem?_eq_none (by omega), List.getElem?_eq_none (by omega)]
    · rintro rfl j _
      simp
  obtain ⟨i0, hi⟩ := Option.isSome_iff_exists.1 Tryd.info5s
  rw [run_equalIn_array w 9999 _ _ Tryd.underlying36 hi, Tryd.cells5, ← hd]
  exact eq_items2 xs ys w _ (fun j hj => List.mem_range.1 hj)

theorem hash_row {w : World} {S : Nat} {hz : List Int} (h : Blk w S 36 (bcells hz)) (hl : hz.length = 32) (hb : ∀ x ∈ hz, 0 ≤ x ∧ x ≤ 255) : Row w (some ⟨S, 0, none⟩) 32 hz :=
  ⟨hl, hb, fun _ => ⟨S, 0, rfl, h.lt, fun i hi => by rw [Nat.zero_add]; exact (h.cell i).trans (bcells_get hz i hi)⟩⟩


end Go.Proofs.YtdhablbfblkagaaDoor

namespace Go.Proofs.YtdhablbfblkagaaDoor
open Go.RowKit
set_option linter.unusedVariables false

/-- Bytes and an error are handed back. -/
def GivesE (zs : List Int) (r : Int) (w : World) (e : Ending) (w' : World) : Prop :=
  ∃ a c, e = .returned (.tuple #[.slice a zs.length c, .int .i64 r]) ∧ Row w' a zs.length zs ∧ zs.length ≤ c ∧ (a = none → c = 0) ∧ Below w.heap.size w w'
theorem gives_err {r : Int} {w w' : World} (hb : Below w.heap.size w w') : GivesE [] r w (.returned (.tuple #[.slice none 0 0, .int .i64 r])) w' := ⟨none, 0, rfl, Row.nil _ _, Nat.le_refl _, fun _ => rfl, hb⟩
theorem out_gives {zs : List Int} {w w0 w' : World} {V : Value} (h : Out w0 w' V zs) (hz : ∀ x ∈ zs, 0 ≤ x ∧ x ≤ 255) (hb : Below w.heap.size w w0) : GivesE zs 0 w (.returned (.tuple #[V, .int .i64 0])) w' := by
  obtain ⟨a, c, rfl, hr⟩ := h.row hz
  exact ⟨a, c, rfl, hr, own_cap h.1, h.nilc, Below.step hb h.2⟩
theorem out_two (w : World) (x y : Int) : Out w (w.alloc (.cells #[.int .u8 x, .int .u8 y] 5)) (.slice (some ⟨w.heap.size, 0, none⟩) 2 2) [x, y] :=
  ⟨⟨rfl, .inr ⟨w.heap.size, 2, #[.int .u8 x, .int .u8 y], rfl, Nat.le_refl _, heap_alloc_new w _, Nat.le_refl _, by unfold maxLen; omega, rfl, rfl⟩⟩, (Below.refl _ _).alloc (Nat.le_refl _) _⟩

/-- Frame's error and its bytes. -/
def frE (s : Int) : Int := if 62 ≤ s ∧ s ≤ 512 then 0 else 1
def frB (hz : List Int) (s : Int) : List Int := if 62 ≤ s ∧ s ≤ 512 then frameZ hz s.toNat else []
theorem frame_split (hz : List Int) (k : Nat) : frameZ hz k = (0 :: 1 :: List.replicate (k - 54) 255) ++ ([0, 48, 49, 48, 13, 6, 9, 96, 134, 72, 1, 101, 3, 4, 2, 1, 5, 0, 4, 32] ++ hz) := by
  simp [frameZ, HEAD]
theorem frame_more (j : Nat) : 0 :: 1 :: List.replicate (j + 1) (255 : Int) = (0 :: 1 :: List.replicate j 255) ++ [255] := by
  rw [List.replicate_succ', List.cons_append, List.cons_append]

set_option maxHeartbeats 1000000 in
set_option maxRecDepth 100000 in
theorem rframe_any (hz : List Int) (s : Int) (w : World) (hl : hz.length = 32) (hb : ∀ x ∈ hz, 0 ≤ x ∧ x ≤ 255) (s0 : -9223372036854775808 ≤ s) (s1 : s ≤ 9223372036854775807) :
    Calls Tryd.prog 29 #[.agg (bcells hz), .int .i64 s] w (GivesE (frB hz s) (frE s) w) := by
  have BX := Lib.hid (Blk.new w 36 (bcells hz))
  have BW := Lib.hid (box_below w (.cells (bcells hz) 36))
  have HR := Lib.hid (hash_row BX.out hl hb)
  have FB := Lib.hid (frame_byte hb)
  have FS := Lib.hid (frame_split hz)
  have HL := Lib.hid hl
  clear hl hb BX
  go_enter Tryd.func29, Tryd.ntmps29
  generalize hw2 : w.alloc (.cells (bcells hz) 36) = w2 at *
  by_cases h1 : s < 62
  · have t1 : decide (s < (62 : Int)) = true := decide_eq_true h1
    have F1 : Hid (frE s = 1) := Lib.hid (if_neg (by omega))
    have F2 : Hid (frB hz s = []) := Lib.hid (if_neg (by omega))
    go_wp2_with fail
    go_ret2
    rw [F1.out, F2.out]
    exact gives_err BW.out
  have t1 : decide (s < (62 : Int)) = false := decide_eq_false h1
  by_cases h2 : 512 < s
  · have t2 : decide ((512 : Int) < s) = true := decide_eq_true h2
    have F1 : Hid (frE s = 1) := Lib.hid (if_neg (by omega))
    have F2 : Hid (frB hz s = []) := Lib.hid (if_neg (by omega))
    go_wp2_with fail
    go_ret2
    rw [F1.out, F2.out]
    exact gives_err BW.out
  have t2 : decide ((512 : Int) < s) = false := decide_eq_false h2
  obtain ⟨k, rfl⟩ : ∃ k : Nat, s = (k : Int) := ⟨s.toNat, by omega⟩
  have F1 : Hid (frE (k : Int) = 0) := Lib.hid (if_pos (by omega))
  have F2 : Hid (frB hz (k : Int) = frameZ hz k) := Lib.hid (if_pos (by omega))
  have O1 := Lib.hid (out_two w2 0 1)
  go_wp2_with fail
  clear hw2
  go_loopw [6] (fun V wr => ∃ j : Nat, j ≤ k - 54 ∧ Out w2 wr V (0 :: 1 :: List.replicate j 255)) (fun V _ => 1000 - lenS V)
  case atStart => exact ⟨0, by omega, O1.out⟩
  case round =>
    obtain ⟨j, hj, ho⟩ := hrel
    have HO := Lib.hid ho
    have hll : (0 :: 1 :: List.replicate j (255 : Int)).length = j + 2 := by simp
    obtain ⟨a', c', rfl⟩ := ho.shape
    clear ho
    by_cases hlt : j < k - 54
    · have NE := Lib.hid (frame_more j)
      generalize 0 :: 1 :: List.replicate j (255 : Int) = L at *
      have t0 : decide ((L.length : Int) < (k : Int) - 52) = true := decide_eq_true (by omega)
      have HBN : Hid (L.length + 1 ≤ 1000000) := Lib.hid (by omega)
      have hl1 : L.length ≤ 600 := by omega
      clear hll
      have O3 := Lib.hid (HO.out.alloc (.cells #[.int .u8 255] 5))
      have R3 := Lib.hid (row_const wr [255] (0, 0) (by intro y hy; simp at hy; omega))
      go_wp2_with (at_builtin; go_must (refine out_append (W0 := w2) (L := L) (zs := [255]) rfl _ _ rfl rfl O3.out rfl R3.out (fun e => by cases e) HBN.out ?_; intro V4 w4 ho4; obtain ⟨a4, c4, e4⟩ := ho4.shape; rw [List.length_append, List.length_singleton] at e4; subst e4; have O4 := Lib.hid ho4; clear ho4))
      go_roundw
      case rel => exact ⟨j + 1, by omega, by rw [NE.out]; exact O4.out⟩
      case measure => simp only [lenS]; omega
    · obtain rfl : j = k - 54 := by omega
      have FX := Lib.hid (FS.out k)
      have FY := Lib.hid (FB.out k)
      generalize 0 :: 1 :: List.replicate (k - 54) (255 : Int) = L at *
      have t0 : decide ((L.length : Int) < (k : Int) - 52) = false := decide_eq_false (by omega)
      have hl1 : L.length ≤ 600 := by omega
      clear hll FS FB
      have O3 := Lib.hid (HO.out.alloc (.cells #[.int .u8 0, .int .u8 48, .int .u8 49, .int .u8 48, .int .u8 13, .int .u8 6, .int .u8 9, .int .u8 96, .int .u8 134, .int .u8 72, .int .u8 1, .int .u8 101, .int .u8 3, .int .u8 4, .int .u8 2, .int .u8 1, .int .u8 5, .int .u8 0, .int .u8 4, .int .u8 32] 5))
      have R3 := Lib.hid (row_const wr [0, 48, 49, 48, 13, 6, 9, 96, 134, 72, 1, 101, 3, 4, 2, 1, 5, 0, 4, 32] (0, 0) (by intro y hy; simp at hy; omega))
      have HBN : Hid (L.length + 20 ≤ 1000000) := Lib.hid (by omega)
      have HBM : Hid ((L ++ [0, 48, 49, 48, 13, 6, 9, 96, 134, 72, 1, 101, 3, 4, 2, 1, 5, 0, 4, 32]).length + 32 ≤ 1000000) := Lib.hid (by simp; omega)
      go_wp2_with (at_builtin; first
        | (refine out_append (W0 := w2) (L := L) (zs := [0, 48, 49, 48, 13, 6, 9, 96, 134, 72, 1, 101, 3, 4, 2, 1, 5, 0, 4, 32]) rfl _ _ rfl rfl O3.out rfl R3.out (fun e => by cases e) HBN.out ?_; intro V4 w4 ho4; have O4 := Lib.hid ho4; have R4 := Lib.hid (HR.out.below ho4.2); clear ho4)
        | (refine out_append (W0 := w2) (zs := hz) rfl _ _ rfl rfl O4.out rfl R4.out (fun e => by cases e) HBM.out ?_; intro V5 w5 ho5; have O5 := Lib.hid ho5; clear ho5))
      go_ret2
      rw [F1.out, F2.out]
      refine out_gives ?_ FY.out BW.out
      rw [FX.out, ← List.append_assoc]
      exact O5.out

end Go.Proofs.YtdhablbfblkagaaDoor
