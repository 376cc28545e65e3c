/-
  Merged texts: AfG, AfI, AfJ, AfK, AfL, AfH, AfN, OcCmp, AeD.
-/
import Derived.Test.YtpekpgmdjpcpiaaDoorGrF
import Derived.Test.YtpekpgmdjpcpiaaDoorGrE
import Derived.Test.YtpekpgmdjpcpiaaDoorRows
import Derived.Test.YtpekpgmdjpcpiaaDoorGrA
import Derived.WalkKit
import Derived.WalkSpells
import Derived.WalkLawsBesides
import Derived.Deep.QuietTactic
import Derived.BigQuiet
import Derived.Lib.Hide
import Derived.Test.YtpekpgmdjpcpiaaDoorGrB
namespace Go.Proofs.YtpekpgmdjpcpiaaDoor
open Go.RowKit
set_option linter.unusedVariables false

def hasColon (s : ByteArray) : Bool := decide (0 ≤ Lib.indexByte s.data.toList 58)
/-- The address that a text's groups make. -/
def midA (A : List Int) (t : ByteArray) : List Int := copyAt A (groupsB true (piecesZ true t)) (16 - (groupsB true (piecesZ true t)).length)
def parseV (s : ByteArray) : Bool := (cutB (cutB s ⟨#[47]⟩).1 ⟨#[58, 58]⟩).2.2 || hasColon (cutB s ⟨#[47]⟩).1
def parseA (s : ByteArray) : List Int :=
  let a := (cutB s ⟨#[47]⟩).1
  let c := cutB a ⟨#[58, 58]⟩
  if c.2.2 = true then midA (copyAt zeroA (groupsB true (piecesZ true c.1)) 0) c.2.1
  else if hasColon a = true then midA zeroA a else copyAt zeroA (groupsB false (piecesZ false a)) 0
def parseL (s : ByteArray) : Int := atoiV (cutB s ⟨#[47]⟩).2.1
theorem groupsB_le (v : Bool) (t : ByteArray) : (groupsB v (piecesZ v t)).length ≤ 16 := by
  rw [groupsB_len]
  have h1 := pieces_len v t
  have h2 := fam_is v
  have h3 := Nat.mul_le_mul_left (famG v) h1.1
  omega
theorem groupsB_pos (v : Bool) (t : ByteArray) : 1 ≤ (groupsB v (piecesZ v t)).length := by
  rw [groupsB_len]
  have h2 := fam_is v
  have h1 : 1 ≤ (piecesZ v t).length := by
    unfold piecesZ
    generalize min (famK v) (t.size + 1) - 1 = k
    cases k with
    | zero => simp [Lib.splitB_zero]
    | succ k =>
      unfold Lib.splitB
      split <;> simp
  have h3 := Nat.mul_le_mul h2.2.1 h1
  omega
theorem midA_ok {A : List Int} (hA : Sixteen A) (t : ByteArray) : Sixteen (midA A t) := copyAt_ok hA (groupsB_byte true _) (by have := groupsB_le true t; omega)
theorem parseA_ok (s : ByteArray) : Sixteen (parseA s) := by
  unfold parseA
  simp only
  split
  · exact midA_ok (copyAt_ok zeroA_ok (groupsB_byte true _) (by have := groupsB_le true (cutB (cutB s ⟨#[47]⟩).1 ⟨#[58, 58]⟩).1; omega)) _
  · split
    · exact midA_ok zeroA_ok _
    · exact copyAt_ok zeroA_ok (groupsB_byte false _) (by have := groupsB_le false (cutB s ⟨#[47]⟩).1; omega)
theorem cutB_size (s sep : ByteArray) : (cutB s sep).1.size ≤ s.size ∧ (cutB s sep).2.1.size ≤ s.size := by
  have e : s.size = s.data.toList.length := Array.length_toList.symm
  rw [e]
  unfold cutB Lib.cut
  show (List.toArray _).size ≤ s.data.toList.length ∧ (List.toArray _).size ≤ s.data.toList.length
  rw [List.size_toArray, List.size_toArray]
  split
  · simp only [List.length_take, List.length_drop]
    omega
  · simp

set_option maxHeartbeats 2000000 in
set_option maxRecDepth 10000 in
theorem pparse_any (s : ByteArray) (w : World) (hn : s.size ≤ 4000000) (hs : Std w) :
    Calls Tryd.prog 26 #[.string s] w fun e w' => e = .returned (.agg (pcells (parseV s) (parseA s) (parseL s))) ∧ Below w.heap.size w w' := by
  have BR : Hid (Blk ((w.alloc (.cells ZP 24)).alloc (.cells ZP 24)) w.heap.size 24 ZP) := Lib.hid (Blk.alloc (Blk.new w _ _) _)
  have BP := Lib.hid (Blk.new (w.alloc (.cells ZP 24)) 24 ZP)
  have HGZ : Hid ((w.alloc (.cells ZP 24)).heap.size = w.heap.size + 1) := Lib.hid (by simp)
  have BW := Lib.hid (Below.step (box_below w (.cells ZP 24)) (box_below _ (.cells ZP 24)))
  have HS := Lib.hid (hs.later BW.out)
  have HW := Lib.hid hs
  have SZ1 := cutB_size s ⟨#[47]⟩
  have SZ2 := cutB_size (cutB s ⟨#[47]⟩).1 ⟨#[58, 58]⟩
  have C1 := Lib.hid (fun W hW => cuts_any s ⟨#[47]⟩ W hn hW)
  have C2 := Lib.hid (fun W hW => atois_any (cutB s ⟨#[47]⟩).2.1 W (by omega) hW)
  have C3 := Lib.hid (fun W hW => cuts_any (cutB s ⟨#[47]⟩).1 ⟨#[58, 58]⟩ W (by omega) hW)
  have CF := Lib.hid (fun v W => family_any v W)
  have ZSf := Lib.hid (fun v => Tryd.sizeF v)
  have ZEf : Hid (∀ v, ZF.size = (famC v).size) := Lib.hid (fun v => by cases v <;> rfl)
  have P1f := Lib.hid (fun v => famC_one v)
  have AL : Hid (atoiV (cutB s ⟨#[47]⟩).2.1 = parseL s) := Lib.hid rfl
  rw [AL.out] at C2
  clear hs
  go_enter Tryd.func26, Tryd.ntmps26
  go_upto_region 2 with (first
    | (refine Great.wpList_allocTo rfl (some 2) rfl (.pointer (some ⟨w.heap.size, 0, none⟩)) (.cells ZP 24) rfl ?_)
    | (refine Great.wpList_allocTo rfl (some 3) rfl (.pointer (some ⟨(w.alloc (.cells ZP 24)).heap.size, 0, none⟩)) (.cells ZP 24) rfl ?_))
  simp only [Act.put, List.setIfInBounds_toArray, List.set_cons_zero, List.set_cons_succ]
  have HGP : Hid (w.heap.size ≤ (w.alloc (.cells ZP 24)).heap.size ∧ w.heap.size ≠ (w.alloc (.cells ZP 24)).heap.size) := Lib.hid (by rw [HGZ.out]; omega)
  clear HGZ
  generalize (w.alloc (.cells ZP 24)).alloc (.cells ZP 24) = w2 at *
  generalize (w.alloc (.cells ZP 24)).heap.size = gp at *
  have hz := parseV s
  obtain ⟨c1, hc1⟩ : ∃ c1, cutB s ⟨#[47]⟩ = c1 := ⟨_, rfl⟩
  have HC1 := Lib.hid hc1
  rw [hc1] at SZ1 SZ2 C1 C2 C3
  clear hc1
  obtain ⟨ad, lt, fd⟩ := c1
  obtain ⟨c2, hc2⟩ : ∃ c2, cutB (ad, lt, fd).1 ⟨#[58, 58]⟩ = c2 := ⟨_, rfl⟩
  have HC2 := Lib.hid hc2
  rw [hc2] at SZ2 C3
  clear hc2
  obtain ⟨bf, af, hr⟩ := c2
  dsimp only at SZ1 SZ2 C1 C2 C3 HC2
  generalize hPL : parseL s = PL at *
  have HPL := Lib.hid hPL
  clear hPL AL
  go_upto_region 3 with (go_at_call 44; refine (C1.out _ HS.out).mono ?_; rintro e w3 ⟨rfl, hb3⟩; have B3 := Lib.hid (Below.step BW.out hb3); have R3 := Lib.hid (BR.out.below hb3 BR.out.lt); have P3 := Lib.hid (BP.out.below hb3 BP.out.lt); have H3 := Lib.hid (HS.out.later hb3); clear hb3 C1)
  go_upto_region 4 with (go_at_call 45; refine (C2.out _ H3.out).mono ?_; rintro e w4 ⟨er, rfl, hb4⟩; have B4 := Lib.hid (Below.step B3.out hb4); have R4 := Lib.hid (R3.out.below hb4 R3.out.lt); have P4 := Lib.hid (P3.out.below hb4 P3.out.lt); have H4 := Lib.hid (H3.out.later hb4); have cz := P4.out.cell 17; have fz := P4.out.free 17; clear hb4 C2)
  have P5 : Hid (PBlk (w4.setCell ⟨gp, 17, none⟩ (.int .i64 PL)) gp false zeroA PL) := Lib.hid (PBlk.setL (show PBlk w4 gp false zeroA 0 from P4.out) zeroA_ok.1 PL)
  have R5 : Hid (Blk (w4.setCell ⟨gp, 17, none⟩ (.int .i64 PL)) w.heap.size 24 ZP) := Lib.hid (Blk.far R4.out HGP.out.2 17 _)
  have B5 : Hid (Below w.heap.size w (w4.setCell ⟨gp, 17, none⟩ (.int .i64 PL))) := Lib.hid (Below.setCell B4.out (p := ⟨gp, 17, none⟩) HGP.out.1 _)
  have H5 : Hid (Std (w4.setCell ⟨gp, 17, none⟩ (.int .i64 PL))) := Lib.hid (HW.out.later B5.out)
  clear P4 R4 B4 H4 H3 R3 P3 B3 BR BP BW HS cz fz
  generalize w4.setCell ⟨gp, 17, none⟩ (.int .i64 PL) = w5 at *
  go_upto_region 5 with (first
    | (go_at_call 37; refine (CF.out false w5).mono ?_; rintro e w6 ⟨rfl, hb6⟩; have E6 := Lib.hid hb6; clear hb6)
    | (go_at_call 37; refine (CF.out true w6).mono ?_; rintro e w7 ⟨rfl, hb7⟩; have E7 := Lib.hid (Below.step E6.out hb7); clear hb7 E6; have S7 := Lib.hid (Blk.alloc (Blk.new w7 56 ZF) (.cells ZF 56)); have S8 := Lib.hid (Blk.new (w7.alloc (.cells ZF 56)) 56 ZF))
    | (refine Great.wpList_allocTo rfl (some 7) rfl (.pointer (some ⟨w7.heap.size, 0, none⟩)) (.cells ZF 56) rfl ?_)
    | (refine Great.wpList_allocTo rfl (some 8) rfl (.pointer (some ⟨(w7.alloc (.cells ZF 56)).heap.size, 0, none⟩)) (.cells ZF 56) rfl ?_)
    | (refine wpList_store_rowTo rfl 56 (.tmp 7) (.tmp 25) rfl rfl w7.heap.size (famC false) rfl rfl 56 ZF S7.out (ZSf.out false) (ZEf.out false) (P1f.out false) ?_)
    | (refine wpList_store_rowTo rfl 56 (.tmp 8) (.tmp 26) rfl rfl (w7.alloc (.cells ZF 56)).heap.size (famC true) rfl rfl 56 ZF (show Blk (World.setRow _ _ _) _ _ _ from (setRow_other _ _ _ _ (by simp)).trans S8.out) (ZSf.out true) (ZEf.out true) (P1f.out true) ?_))
  simp only [Act.put, List.setIfInBounds_toArray, List.set_cons_zero, List.set_cons_succ]
  have G78 : Hid (w7.heap.size ≠ (w7.alloc (.cells ZF 56)).heap.size) := Lib.hid (by simp)
  have K7 : Hid (Blk ((((w7.alloc (.cells ZF 56)).alloc (.cells ZF 56)).setRow w7.heap.size (famC false)).setRow (w7.alloc (.cells ZF 56)).heap.size (famC true)) w7.heap.size 56 (famC false)) := Lib.hid ((setRow_other _ _ _ _ G78.out).trans (setRow_heap _ _ _ _ _ _ S7.out))
  have K8 : Hid (Blk ((((w7.alloc (.cells ZF 56)).alloc (.cells ZF 56)).setRow w7.heap.size (famC false)).setRow (w7.alloc (.cells ZF 56)).heap.size (famC true)) (w7.alloc (.cells ZF 56)).heap.size 56 (famC true)) := Lib.hid (setRow_heap _ _ _ _ _ _ (show Blk (World.setRow _ _ _) _ _ _ from (setRow_other _ _ _ _ G78.out.symm).trans S8.out))
  have E10 : Hid (Below w5.heap.size w5 ((((w7.alloc (.cells ZF 56)).alloc (.cells ZF 56)).setRow w7.heap.size (famC false)).setRow (w7.alloc (.cells ZF 56)).heap.size (famC true))) := Lib.hid (by
    have h := E7.out.size
    exact below_setRow (below_setRow (E7.out.trans ((Below.step (box_below w7 _) (box_below _ _)).mono h)) h _) (by simp; omega) _)
  have GP7 : Hid (gp < w7.heap.size ∧ gp ≠ (w7.alloc (.cells ZF 56)).heap.size) := Lib.hid (by
    have h := E7.out.size
    have := P5.out.lt
    simp
    omega)
  clear S7 S8 E7
  generalize (((w7.alloc (.cells ZF 56)).alloc (.cells ZF 56)).setRow w7.heap.size (famC false)).setRow (w7.alloc (.cells ZF 56)).heap.size (famC true) = w10 at *
  generalize (w7.alloc (.cells ZF 56)).heap.size = g8 at *
  generalize w7.heap.size = g7 at *
  have P10 := Lib.hid (P5.out.below E10.out P5.out.lt)
  have R10 := Lib.hid (R5.out.below E10.out R5.out.lt)
  have B10 := Lib.hid (Below.step B5.out E10.out)
  have H10 := Lib.hid (H5.out.later E10.out)
  clear P5 R5 B5 H5 E10 CF
  go_upto_region 6 with (go_at_call 44; refine (C3.out _ H10.out).mono ?_; rintro e w11 ⟨rfl, hb11⟩; have B11 := Lib.hid (Below.step B10.out hb11); have R11 := Lib.hid (R10.out.below hb11 R10.out.lt); have P11 := Lib.hid (P10.out.below hb11 P10.out.lt); have K71 := Lib.hid (K7.out.below hb11 K7.out.lt); have K81 := Lib.hid (K8.out.below hb11 K8.out.lt); have H11 := Lib.hid (H10.out.later hb11); clear hb11 C3)
  clear P10 R10 B10 H10 K7 K8
  cases hr with
  | true =>
    go_wp2_with fail
    have CG := Lib.hid (fun W hW => groupsof_any true bf W (by omega) hW)
    have GB := Lib.hid (groupsB_byte true (piecesZ true bf))
    have GL := groupsB_le true bf
    generalize hG : groupsB true (piecesZ true bf) = G1 at *
    have HG1 := Lib.hid hG
    clear hG
    have ZSx := Lib.hid (ZSf.out true)
    generalize hfc : famC true = fc at *
    have HFC := Lib.hid hfc
    clear hfc
    refine wp_region_ord (fun x y => y.heap[g8]? = x.heap[g8]?) (fun _ => rfl) (fun _ _ _ h k => k.trans h) ((0, false) :: (1, false) :: (2, false) :: (3, false) :: (4, true) :: (5, true) :: []) (by kernel_rfl) (by kernel_rfl) rfl (by kernel_rfl) (fun _ _ _ _ _ h => h) ?_
    refine ord_take _ rfl (by rfl) (fun W hW => by go_simp; first | done | rfl) ?_
    simp only [Act.put, List.setIfInBounds_toArray, List.set_cons_zero, List.set_cons_succ]
    refine ord_take _ rfl (by rfl) (fun W hW => by go_simp; first | done | rfl) ?_
    simp only [Act.put, List.setIfInBounds_toArray, List.set_cons_zero, List.set_cons_succ]
    refine ord_take (.agg fc) rfl (by rfl) (fun W hW => yields_row 56 (.tmp 8) rfl g8 56 fc _ rfl (show Blk W g8 _ _ from hW.trans K81.out) Tryd.underlying56 rfl ZSx.out) ?_
    simp only [Act.put, List.setIfInBounds_toArray, List.set_cons_zero, List.set_cons_succ]
    refine ord_take _ rfl (by rfl) (fun W hW => by go_simp; first | done | rfl) ?_
    simp only [Act.put, List.setIfInBounds_toArray, List.set_cons_zero, List.set_cons_succ]
    refine ord_sole rfl (by rfl) (fun K1 hK1 => ?_)
    go_simp
    refine (CG.out _ (H11.out.drewN 1)).mono ?_
    rintro r w12 ⟨V, rfl, hout⟩
    obtain ⟨ar, cr, rfl, hrow⟩ := hout.row GB.out
    refine hK1 _ _ (hout.2.block g8 K81.out.lt) ?_
    have E12 := Lib.hid (Below.step (drewN_below w11 1) hout.2)
    have HR12 := Lib.hid hrow
    have P12 := Lib.hid (P11.out.below E12.out P11.out.lt)
    have R12 := Lib.hid (R11.out.below E12.out R11.out.lt)
    have K12 := Lib.hid (K81.out.below E12.out K81.out.lt)
    have B12 := Lib.hid (Below.step B11.out E12.out)
    clear hK1 K1 CG hout hrow E12
    refine ord_sole rfl (by rfl) (fun K1 hK1 => ?_)
    refine step_copyP (W0 := w) rfl _ _ rfl gp 0 ar G1.length cr false zeroA G1 PL (some ⟨gp, 1, none⟩) 16 16 (fun _ => rfl) rfl rfl GL P12.out zeroA_ok.1 HR12.out (by omega) B12.out HGP.out.1 ?_
    intro w13 hp hbut hb13
    refine hK1 _ _ (hbut g8 GP7.out.2.symm) ?_
    have P13 := Lib.hid hp
    have R13 := Lib.hid (R12.out.but hbut HGP.out.2)
    have K13 := Lib.hid (K12.out.but hbut GP7.out.2.symm)
    have B13 := Lib.hid hb13
    have H13 := Lib.hid (HW.out.later hb13)
    have A13 := Lib.hid (copyAt_ok (o := 0) zeroA_ok GB.out (by omega))
    generalize hA1 : copyAt zeroA G1 0 = A1 at *
    have HA1 := Lib.hid hA1
    clear hK1 K1 hp hbut hb13 P12 R12 B12 HR12 hA1
    refine ord_end ?_
    clear P11 R11 K71 K81 B11 H11
    have hfc2 := HFC.out
    subst hfc2
    have cv := P13.out.v
    have fv := Blk.free P13.out 0
    have P20 : Hid (PBlk (w13.setCell ⟨gp, 0, none⟩ (.bool true)) gp true A1 PL) := Lib.hid (PBlk.setV P13.out true)
    have R20 : Hid (Blk (w13.setCell ⟨gp, 0, none⟩ (.bool true)) w.heap.size 24 ZP) := Lib.hid (Blk.far R13.out HGP.out.2 0 _)
    have K20 : Hid (Blk (w13.setCell ⟨gp, 0, none⟩ (.bool true)) g8 56 (famC true)) := Lib.hid (Blk.far K13.out GP7.out.2.symm 0 _)
    have B20 : Hid (Below w.heap.size w (w13.setCell ⟨gp, 0, none⟩ (.bool true))) := Lib.hid (Below.setCell B13.out (p := ⟨gp, 0, none⟩) HGP.out.1 _)
    have H20 : Hid (Std (w13.setCell ⟨gp, 0, none⟩ (.bool true))) := Lib.hid (HW.out.later B20.out)
    clear R13 K13 B13 H13
    go_upto_region 11 with (fail)
    clear cv fv P13
    generalize w13.setCell ⟨gp, 0, none⟩ (.bool true) = w20 at *
    have CG := Lib.hid (groupsof_any true af w20 (by omega) H20.out)
    have GB2 := Lib.hid (groupsB_byte true (piecesZ true af))
    have GL2 := groupsB_le true af
    have GP2 := groupsB_pos true af
    generalize hG2 : groupsB true (piecesZ true af) = G2 at *
    have HG2 := Lib.hid hG2
    clear hG2
    have ZSx := Lib.hid (ZSf.out true)
    go_upto_region 12 with (first
      | (refine wpList_load_row rfl 56 (.tmp 8) rfl g8 rfl 56 (famC true) (0, 0) _ K20.out Tryd.underlying56 rfl ZSx.out ?_)
      | (go_at_call 46; refine CG.out.mono ?_; rintro e w21 ⟨V2, rfl, ho21⟩; have O21 := Lib.hid ho21; clear ho21 CG))
    obtain ⟨a2, c2, hV2, hrow2⟩ := O21.out.row GB2.out
    subst hV2
    have HR21 := Lib.hid hrow2
    have P21 := Lib.hid (P20.out.below O21.out.2 P20.out.lt)
    have R21 := Lib.hid (R20.out.below O21.out.2 R20.out.lt)
    have d0 := (K20.out.below O21.out.2 K20.out.lt).cell 0
    have B21 := Lib.hid (Below.step B20.out O21.out.2)
    rw [show (famC true)[0]? = some (.int .i64 16) from rfl] at d0
    clear P20 R20 K20 B20 H20 O21 hrow2
    have sub : IntKind.i64.wrap (16 - (G2.length : Int)) = 16 - (G2.length : Int) := IntWalk.i64_in _ (by omega)
    have hsl : ∀ W, (Instr.sliceAt 22 (.pointer (some ⟨gp, 1, none⟩)) (some (.int .i64 (16 - (G2.length : Int)))) none none).run Tryd.prog W = .ok (.slice (some ⟨gp, 1 + (16 - G2.length), none⟩) G2.length G2.length) W := fun W => by
      have hal : Tryd.prog.arrayLen 22 = 16 := by kernel_rfl
      rw [run_sliceAt_array_l W 22 ⟨gp, 1, none⟩ Tryd.underlying22 .i64 (16 - (G2.length : Int)) (by omega) (by rw [hal]; omega), hal, show ((16 : Int) - (G2.length : Int)).toNat = 16 - G2.length by omega]
      go_simp
      omega
    have A22 := Lib.hid (copyAt_ok (o := 16 - G2.length) A13.out GB2.out (by omega))
    have SG := Lib.hid (show 16 - G2.length + G2.length ≤ 16 by omega)
    have a16x := Lib.hid A13.out.1
    clear GL2 GP2
    go_upto_region 14 with (refine list_copyP (W0 := w) rfl _ _ rfl gp (16 - G2.length) a2 G2.length c2 true A1 G2 PL (some ⟨gp, 1 + (16 - G2.length), none⟩) G2.length G2.length (fun _ => rfl) rfl rfl (Nat.le_refl _) P21.out a16x.out HR21.out SG.out B21.out HGP.out.1 ?_; intro w22 hp22 hbut22 hb22; have P22 := Lib.hid hp22; have R22 := Lib.hid (R21.out.but hbut22 HGP.out.2); have B22 := Lib.hid hb22; clear hp22 hbut22 hb22)
    generalize hA2 : copyAt A1 G2 (16 - G2.length) = A2 at *
    have HA2 := Lib.hid hA2
    clear hA2 P21 R21 B21 HR21 d0 hsl sub
    have EV : Hid (parseV s = true) := Lib.hid (by unfold parseV; simp only [HC1.out, HC2.out]; rfl)
    have EA : Hid (parseA s = A2) := Lib.hid (by unfold parseA; simp only [HC1.out, HC2.out, if_true]; unfold midA; rw [HG1.out, HA1.out, HG2.out, HA2.out])
    have a16 := A22.out.1
    have ZS := Lib.hid (Tryd.sizeP (v := true) (L := PL) a16)
    have ZE : Hid (ZP.size = (pcells true A2 PL).size) := Lib.hid (by rw [pcells_size a16]; rfl)
    have P1 := Lib.hid (pcells_one true A2 PL)
    go_wp2_with (first
      | (refine wpList_load_row rfl 24 (.tmp 3) rfl gp rfl 24 (pcells true A2 PL) (0, 0) _ P22.out Tryd.underlying24 rfl ZS.out ?_)
      | (refine wpList_store_rowTo rfl 24 (.tmp 2) (.tmp 66) rfl rfl w.heap.size (pcells true A2 PL) rfl rfl 24 ZP R22.out ZS.out ZE.out P1.out ?_))
    exact bodyPost_ret (results_cell_row rfl _ _ w.heap.size 24 (pcells true A2 PL) (0, 0) _ rfl (setRow_heap _ _ _ _ 24 _ R22.out) Tryd.underlying24 rfl ZS.out) rfl ⟨by rw [HPL.out, EV.out, EA.out], below_setRow B22.out (Nat.le_refl _) _⟩
  | false =>
    have CC := Lib.hid (fun W => Tryd.strings_Contains_one ad 58 W)
    have c3 := K81.out.cell 3
    rw [show (famC true)[3]? = some (.string ⟨#[58]⟩) from rfl] at c3
    have HCL : Hid (decide (0 ≤ Lib.indexByte ad.data.toList 58) = hasColon ad) := Lib.hid rfl
    rw [HCL.out] at CC
    cases hcl : hasColon ad with
    | true =>
      have HH := Lib.hid hcl
      rw [hcl] at CC
      clear hcl HCL
      go_upto_region 10 with (go_at_call 47; refine (CC.out _).mono ?_; rintro e w12 ⟨rfl, hw12⟩; obtain rfl := hw12.symm; clear CC)
      clear c3
      have A0 := Lib.hid zeroA_ok
      have cv := P11.out.v
      have fv := Blk.free P11.out 0
      have P20 : Hid (PBlk (w11.setCell ⟨gp, 0, none⟩ (.bool true)) gp true zeroA PL) := Lib.hid (PBlk.setV P11.out true)
      have R20 : Hid (Blk (w11.setCell ⟨gp, 0, none⟩ (.bool true)) w.heap.size 24 ZP) := Lib.hid (Blk.far R11.out HGP.out.2 0 _)
      have K20 : Hid (Blk (w11.setCell ⟨gp, 0, none⟩ (.bool true)) g8 56 (famC true)) := Lib.hid (Blk.far K81.out GP7.out.2.symm 0 _)
      have B20 : Hid (Below w.heap.size w (w11.setCell ⟨gp, 0, none⟩ (.bool true))) := Lib.hid (Below.setCell B11.out (p := ⟨gp, 0, none⟩) HGP.out.1 _)
      have H20 : Hid (Std (w11.setCell ⟨gp, 0, none⟩ (.bool true))) := Lib.hid (HW.out.later B20.out)
      clear R11 K81 B11 H11
      go_upto_region 11 with (fail)
      clear cv fv P11
      generalize w11.setCell ⟨gp, 0, none⟩ (.bool true) = w20 at *
      have CG := Lib.hid (groupsof_any true ad w20 (by omega) H20.out)
      have GB2 := Lib.hid (groupsB_byte true (piecesZ true ad))
      have GL2 := groupsB_le true ad
      have GP2 := groupsB_pos true ad
      generalize hG2 : groupsB true (piecesZ true ad) = G2 at *
      have HG2 := Lib.hid hG2
      clear hG2
      have ZSx := Lib.hid (ZSf.out true)
      go_upto_region 12 with (first
        | (refine wpList_load_row rfl 56 (.tmp 8) rfl g8 rfl 56 (famC true) (0, 0) _ K20.out Tryd.underlying56 rfl ZSx.out ?_)
        | (go_at_call 46; refine CG.out.mono ?_; rintro e w21 ⟨V2, rfl, ho21⟩; have O21 := Lib.hid ho21; clear ho21 CG))
      obtain ⟨a2, c2, hV2, hrow2⟩ := O21.out.row GB2.out
      subst hV2
      have HR21 := Lib.hid hrow2
      have P21 := Lib.hid (P20.out.below O21.out.2 P20.out.lt)
      have R21 := Lib.hid (R20.out.below O21.out.2 R20.out.lt)
      have d0 := (K20.out.below O21.out.2 K20.out.lt).cell 0
      have B21 := Lib.hid (Below.step B20.out O21.out.2)
      rw [show (famC true)[0]? = some (.int .i64 16) from rfl] at d0
      clear P20 R20 K20 B20 H20 O21 hrow2
      have sub : IntKind.i64.wrap (16 - (G2.length : Int)) = 16 - (G2.length : Int) := IntWalk.i64_in _ (by omega)
      have hsl : ∀ W, (Instr.sliceAt 22 (.pointer (some ⟨gp, 1, none⟩)) (some (.int .i64 (16 - (G2.length : Int)))) none none).run Tryd.prog W = .ok (.slice (some ⟨gp, 1 + (16 - G2.length), none⟩) G2.length G2.length) W := fun W => by
        have hal : Tryd.prog.arrayLen 22 = 16 := by kernel_rfl
        rw [run_sliceAt_array_l W 22 ⟨gp, 1, none⟩ Tryd.underlying22 .i64 (16 - (G2.length : Int)) (by omega) (by rw [hal]; omega), hal, show ((16 : Int) - (G2.length : Int)).toNat = 16 - G2.length by omega]
        go_simp
        omega
      have A22 := Lib.hid (copyAt_ok (o := 16 - G2.length) A0.out GB2.out (by omega))
      have SG := Lib.hid (show 16 - G2.length + G2.length ≤ 16 by omega)
      have a16x := Lib.hid A0.out.1
      clear GL2 GP2
      go_upto_region 14 with (refine list_copyP (W0 := w) rfl _ _ rfl gp (16 - G2.length) a2 G2.length c2 true zeroA G2 PL (some ⟨gp, 1 + (16 - G2.length), none⟩) G2.length G2.length (fun _ => rfl) rfl rfl (Nat.le_refl _) P21.out a16x.out HR21.out SG.out B21.out HGP.out.1 ?_; intro w22 hp22 hbut22 hb22; have P22 := Lib.hid hp22; have R22 := Lib.hid (R21.out.but hbut22 HGP.out.2); have B22 := Lib.hid hb22; clear hp22 hbut22 hb22)
      generalize hA2 : copyAt zeroA G2 (16 - G2.length) = A2 at *
      have HA2 := Lib.hid hA2
      clear hA2 P21 R21 B21 HR21 d0 hsl sub
      have EV : Hid (parseV s = true) := Lib.hid (by unfold parseV; simp only [HC1.out, HC2.out]; exact HH.out)
      have EA : Hid (parseA s = A2) := Lib.hid (by unfold parseA; simp only [HC1.out, HC2.out]; rw [if_neg (by decide), if_pos HH.out]; unfold midA; rw [HG2.out, HA2.out])
      have a16 := A22.out.1
      have ZS := Lib.hid (Tryd.sizeP (v := true) (L := PL) a16)
      have ZE : Hid (ZP.size = (pcells true A2 PL).size) := Lib.hid (by rw [pcells_size a16]; rfl)
      have P1 := Lib.hid (pcells_one true A2 PL)
      go_wp2_with (first
        | (refine wpList_load_row rfl 24 (.tmp 3) rfl gp rfl 24 (pcells true A2 PL) (0, 0) _ P22.out Tryd.underlying24 rfl ZS.out ?_)
        | (refine wpList_store_rowTo rfl 24 (.tmp 2) (.tmp 66) rfl rfl w.heap.size (pcells true A2 PL) rfl rfl 24 ZP R22.out ZS.out ZE.out P1.out ?_))
      exact bodyPost_ret (results_cell_row rfl _ _ w.heap.size 24 (pcells true A2 PL) (0, 0) _ rfl (setRow_heap _ _ _ _ 24 _ R22.out) Tryd.underlying24 rfl ZS.out) rfl ⟨by rw [HPL.out, EV.out, EA.out], below_setRow B22.out (Nat.le_refl _) _⟩
    | false =>
      have HH := Lib.hid hcl
      rw [hcl] at CC
      clear hcl HCL
      go_upto_region 13 with (go_at_call 47; refine (CC.out _).mono ?_; rintro e w12 ⟨rfl, hw12⟩; obtain rfl := hw12.symm; clear CC)
      clear c3
      have CG := Lib.hid (fun W hW => groupsof_any false ad W (by omega) hW)
      have GB := Lib.hid (groupsB_byte false (piecesZ false ad))
      have GL := groupsB_le false ad
      generalize hG : groupsB false (piecesZ false ad) = G1 at *
      have HG1 := Lib.hid hG
      clear hG
      have ZSx := Lib.hid (ZSf.out false)
      generalize hfc : famC false = fc at *
      have HFC := Lib.hid hfc
      clear hfc
      refine wp_region_ord (fun x y => y.heap[g7]? = x.heap[g7]?) (fun _ => rfl) (fun _ _ _ h k => k.trans h) ((0, false) :: (1, false) :: (2, false) :: (3, false) :: (4, true) :: (5, true) :: []) (by kernel_rfl) (by kernel_rfl) rfl (by kernel_rfl) (fun _ _ _ _ _ h => h) ?_
      refine ord_take _ rfl (by rfl) (fun W hW => by go_simp; first | done | rfl) ?_
      simp only [Act.put, List.setIfInBounds_toArray, List.set_cons_zero, List.set_cons_succ]
      refine ord_take _ rfl (by rfl) (fun W hW => by go_simp; first | done | rfl) ?_
      simp only [Act.put, List.setIfInBounds_toArray, List.set_cons_zero, List.set_cons_succ]
      refine ord_take (.agg fc) rfl (by rfl) (fun W hW => yields_row 56 (.tmp 7) rfl g7 56 fc _ rfl (show Blk W g7 _ _ from hW.trans K71.out) Tryd.underlying56 rfl ZSx.out) ?_
      simp only [Act.put, List.setIfInBounds_toArray, List.set_cons_zero, List.set_cons_succ]
      refine ord_take _ rfl (by rfl) (fun W hW => by go_simp; first | done | rfl) ?_
      simp only [Act.put, List.setIfInBounds_toArray, List.set_cons_zero, List.set_cons_succ]
      refine ord_sole rfl (by rfl) (fun K1 hK1 => ?_)
      go_simp
      refine (CG.out _ (H11.out.drewN 1)).mono ?_
      rintro r w12 ⟨V, rfl, hout⟩
      obtain ⟨ar, cr, rfl, hrow⟩ := hout.row GB.out
      refine hK1 _ _ (hout.2.block g7 K71.out.lt) ?_
      have E12 := Lib.hid (Below.step (drewN_below w11 1) hout.2)
      have HR12 := Lib.hid hrow
      have P12 := Lib.hid (P11.out.below E12.out P11.out.lt)
      have R12 := Lib.hid (R11.out.below E12.out R11.out.lt)
      skip
      have B12 := Lib.hid (Below.step B11.out E12.out)
      clear hK1 K1 CG hout hrow E12
      refine ord_sole rfl (by rfl) (fun K1 hK1 => ?_)
      refine step_copyP (W0 := w) rfl _ _ rfl gp 0 ar G1.length cr false zeroA G1 PL (some ⟨gp, 1, none⟩) 16 16 (fun _ => rfl) rfl rfl GL P12.out zeroA_ok.1 HR12.out (by omega) B12.out HGP.out.1 ?_
      intro w13 hp hbut hb13
      refine hK1 _ _ (hbut g7 (by have := GP7.out.1; omega)) ?_
      have P13 := Lib.hid hp
      have R13 := Lib.hid (R12.out.but hbut HGP.out.2)
      skip
      have B13 := Lib.hid hb13
      have H13 := Lib.hid (HW.out.later hb13)
      have A13 := Lib.hid (copyAt_ok (o := 0) zeroA_ok GB.out (by omega))
      generalize hA1 : copyAt zeroA G1 0 = A1 at *
      have HA1 := Lib.hid hA1
      clear hK1 K1 hp hbut hb13 P12 R12 B12 HR12 hA1
      refine ord_end ?_
      clear P11 R11 K71 K81 B11 H11
      have EV : Hid (parseV s = false) := Lib.hid (by unfold parseV; simp only [HC1.out, HC2.out]; exact HH.out)
      have EA : Hid (parseA s = A1) := Lib.hid (by unfold parseA; simp only [HC1.out, HC2.out]; rw [if_neg (by decide), if_neg (by rw [HH.out]; decide), HG1.out, HA1.out])
      have a16 := A13.out.1
      have ZS := Lib.hid (Tryd.sizeP (v := false) (L := PL) a16)
      have ZE : Hid (ZP.size = (pcells false A1 PL).size) := Lib.hid (by rw [pcells_size a16]; rfl)
      have P1 := Lib.hid (pcells_one false A1 PL)
      go_wp2_with (first
        | (refine wpList_load_row rfl 24 (.tmp 3) rfl gp rfl 24 (pcells false A1 PL) (0, 0) _ P13.out Tryd.underlying24 rfl ZS.out ?_)
        | (refine wpList_store_rowTo rfl 24 (.tmp 2) (.tmp 66) rfl rfl w.heap.size (pcells false A1 PL) rfl rfl 24 ZP R13.out ZS.out ZE.out P1.out ?_))
      exact bodyPost_ret (results_cell_row rfl _ _ w.heap.size 24 (pcells false A1 PL) (0, 0) _ rfl (setRow_heap _ _ _ _ 24 _ R13.out) Tryd.underlying24 rfl ZS.out) rfl ⟨by rw [HPL.out, EV.out, EA.out], below_setRow B13.out (Nat.le_refl _) _⟩

end Go.Proofs.YtpekpgmdjpcpiaaDoor

namespace Go.Proofs.YtpekpgmdjpcpiaaDoor
open Go.RowKit
set_option linter.unusedVariables false

/-- A row of bytes as the library has them. -/
def toB (l : List Int) : List UInt8 := l.map fun n => UInt8.ofNat n.toNat
theorem toB_cons (x : Int) (l : List Int) : toB (x :: l) = UInt8.ofNat x.toNat :: toB l := rfl
theorem toB_more (x y : List Int) : toB (x ++ y) = toB x ++ toB y := List.map_append
theorem u8_ne {x y : Int} (hx : 0 ≤ x ∧ x ≤ 255) (hy : 0 ≤ y ∧ y ≤ 255) : (UInt8.ofNat x.toNat == UInt8.ofNat y.toNat) = decide (x = y) := by
  rw [Bool.eq_iff_iff, beq_iff_eq, decide_eq_true_iff]
  constructor
  · intro h
    have h1 := congrArg UInt8.toNat h
    rw [UInt8.toNat_ofNat', UInt8.toNat_ofNat'] at h1
    omega
  · intro h
    rw [h]
theorem idx_one {c : Int} (hc : 0 ≤ c ∧ c ≤ 255) (ys : List Int) : ∀ xs : List Int, Bytes xs → c ∉ xs → Lib.index (toB (xs ++ c :: ys)) (toB [c]) = (xs.length : Int)
  | [], _, _ => by
    show Lib.index (UInt8.ofNat c.toNat :: toB ys) [UInt8.ofNat c.toNat] = _
    unfold Lib.index
    rw [if_pos (by simp [List.isPrefixOf])]
    rfl
  | x :: xs, hb, hn => by
    simp only [List.mem_cons, not_or] at hn
    have ih := idx_one hc ys xs (fun z hz => hb z (by simp [hz])) hn.2
    show Lib.index (UInt8.ofNat x.toNat :: toB (xs ++ c :: ys)) [UInt8.ofNat c.toNat] = _
    have h1 : ([UInt8.ofNat c.toNat].isPrefixOf (UInt8.ofNat x.toNat :: toB (xs ++ c :: ys))) = false := by
      simp only [List.isPrefixOf, Bool.and_true]
      rw [u8_ne hc (hb x (by simp))]
      exact decide_eq_false hn.1
    unfold Lib.index
    rw [h1]
    rw [show toB [c] = [UInt8.ofNat c.toNat] from rfl] at ih
    rw [ih]
    have h2 : (((xs.length : Nat) : Int) == -1) = false := by rw [beq_eq_false_iff_ne]; omega
    simp [h2]
theorem idx_none1 {c : Int} (hc : 0 ≤ c ∧ c ≤ 255) : ∀ xs : List Int, Bytes xs → c ∉ xs → Lib.index (toB xs) (toB [c]) = -1
  | [], _, _ => rfl
  | x :: xs, hb, hn => by
    simp only [List.mem_cons, not_or] at hn
    have ih := idx_none1 hc xs (fun z hz => hb z (by simp [hz])) hn.2
    show Lib.index (UInt8.ofNat x.toNat :: toB xs) [UInt8.ofNat c.toNat] = _
    have h1 : ([UInt8.ofNat c.toNat].isPrefixOf (UInt8.ofNat x.toNat :: toB xs)) = false := by
      simp only [List.isPrefixOf, Bool.and_true]
      rw [u8_ne hc (hb x (by simp))]
      exact decide_eq_false hn.1
    unfold Lib.index
    rw [h1]
    rw [show toB [c] = [UInt8.ofNat c.toNat] from rfl] at ih
    rw [ih]
    rfl
/-- No two colons side by side, and none at the end. -/
def okCC : List Int → Prop
  | [] => True
  | [x] => x ≠ 58
  | x :: y :: r => ¬ (x = 58 ∧ y = 58) ∧ okCC (y :: r)
theorem okCC_tail {x : Int} {l : List Int} (h : okCC (x :: l)) : okCC l := by
  cases l with
  | nil => trivial
  | cons y r => exact h.2
theorem okCC_plain : ∀ d : List Int, (58 : Int) ∉ d → okCC d
  | [], _ => trivial
  | [x], h => fun e => h (by simp [e])
  | x :: y :: r, h => ⟨fun e => h (by simp [e.1]), okCC_plain (y :: r) (fun e => h (by simp [e]))⟩
theorem okCC_app {y : Int} {r : List Int} (hy : y ≠ 58) (h : okCC (y :: r)) : ∀ d : List Int, (58 : Int) ∉ d → d ≠ [] → okCC (d ++ 58 :: y :: r)
  | [], _, h0 => absurd rfl h0
  | [x], hd, _ => ⟨fun e => hd (by simp [e.1]), fun e => hy e.2, h⟩
  | x :: z :: t, hd, _ => ⟨fun e => hd (by simp [e.1]), okCC_app hy h (z :: t) (fun e => hd (by simp [e])) (by simp)⟩
def CC : List UInt8 := toB [58, 58]
theorem pre_two {x y : Int} (hx : 0 ≤ x ∧ x ≤ 255) (hy : 0 ≤ y ∧ y ≤ 255) (r : List UInt8) : CC.isPrefixOf (UInt8.ofNat x.toNat :: UInt8.ofNat y.toNat :: r) = decide (x = 58 ∧ y = 58) := by
  show (UInt8.ofNat (58 : Int).toNat == UInt8.ofNat x.toNat && (UInt8.ofNat (58 : Int).toNat == UInt8.ofNat y.toNat && true)) = _
  rw [u8_ne (by omega) hx, u8_ne (by omega) hy, Bool.and_true]
  by_cases h1 : x = 58 <;> by_cases h2 : y = 58 <;> simp [h1, h2, eq_comm]
theorem idx_two (ys : List Int) : ∀ xs : List Int, Bytes xs → okCC xs → Lib.index (toB (xs ++ 58 :: 58 :: ys)) CC = (xs.length : Int)
  | [], _, _ => by
    show Lib.index (UInt8.ofNat (58 : Int).toNat :: UInt8.ofNat (58 : Int).toNat :: toB ys) CC = _
    unfold Lib.index
    rw [if_pos (by rw [pre_two (by omega) (by omega)]; rfl)]
    rfl
  | x :: xs, hb, hk => by
    have ih := idx_two ys xs (fun z hz => hb z (by simp [hz])) (okCC_tail hk)
    have hx := hb x (by simp)
    have h1 : CC.isPrefixOf (toB (x :: xs ++ 58 :: 58 :: ys)) = false := by
      cases xs with
      | nil =>
        show CC.isPrefixOf (UInt8.ofNat x.toNat :: UInt8.ofNat (58 : Int).toNat :: toB (58 :: ys)) = false
        rw [pre_two hx (by omega)]
        exact decide_eq_false (fun e => hk e.1)
      | cons z t =>
        show CC.isPrefixOf (UInt8.ofNat x.toNat :: UInt8.ofNat z.toNat :: toB (t ++ 58 :: 58 :: ys)) = false
        rw [pre_two hx (hb z (by simp))]
        exact decide_eq_false hk.1
    show Lib.index (UInt8.ofNat x.toNat :: toB (xs ++ 58 :: 58 :: ys)) CC = _
    unfold Lib.index
    rw [show CC.isPrefixOf (UInt8.ofNat x.toNat :: toB (xs ++ 58 :: 58 :: ys)) = false from h1, ih]
    have h2 : (((xs.length : Nat) : Int) == -1) = false := by rw [beq_eq_false_iff_ne]; omega
    simp [h2]
theorem idx_none2 : ∀ xs : List Int, Bytes xs → okCC xs → Lib.index (toB xs) CC = -1
  | [], _, _ => rfl
  | x :: xs, hb, hk => by
    have ih := idx_none2 xs (fun z hz => hb z (by simp [hz])) (okCC_tail hk)
    have hx := hb x (by simp)
    have h1 : CC.isPrefixOf (UInt8.ofNat x.toNat :: toB xs) = false := by
      cases xs with
      | nil =>
        show (UInt8.ofNat (58 : Int).toNat == UInt8.ofNat x.toNat && false) = false
        simp
      | cons z t =>
        show CC.isPrefixOf (UInt8.ofNat x.toNat :: UInt8.ofNat z.toNat :: toB t) = false
        rw [pre_two hx (hb z (by simp))]
        exact decide_eq_false hk.1
    show Lib.index (UInt8.ofNat x.toNat :: toB xs) CC = _
    unfold Lib.index
    rw [h1, ih]
    rfl
/-- A cut that finds, and one that does not. -/
theorem cutB_hit {xs sep ys : List Int} (h : Lib.index (toB (xs ++ (sep ++ ys))) (toB sep) = (xs.length : Int)) : cutB (strOfNums (xs ++ (sep ++ ys))) (strOfNums sep) = (strOfNums xs, strOfNums ys, true) := by
  unfold cutB
  have e : Lib.cut (strOfNums (xs ++ (sep ++ ys))).data.toList (strOfNums sep).data.toList = (toB xs, toB ys, true) := by
    show Lib.cut (toB (xs ++ (sep ++ ys))) (toB sep) = _
    unfold Lib.cut
    rw [h, if_pos (by omega), Int.toNat_natCast, toB_more, toB_more]
    have l1 : (toB xs).length = xs.length := List.length_map _
    rw [List.take_append_of_le_length (by omega), List.take_of_length_le (by omega), ← l1, ← List.length_append, ← List.append_assoc, List.drop_left]
  rw [e]
  rfl
theorem cutB_miss {xs sep : List Int} (h : Lib.index (toB xs) (toB sep) = -1) : cutB (strOfNums xs) (strOfNums sep) = (strOfNums xs, strOfNums [], false) := by
  unfold cutB
  have e : Lib.cut (strOfNums xs).data.toList (strOfNums sep).data.toList = (toB xs, [], false) := by
    show Lib.cut (toB xs) (toB sep) = _
    unfold Lib.cut
    rw [h, if_neg (by omega)]
  rw [e]
  rfl
theorem ext_first (x y : List Int) (hb : Bytes (x ++ y)) : (strOfNums (x ++ y)).extract 0 x.length = strOfNums x := by
  rw [ext_cut, nums_str _ hb]
  unfold cutZ
  rw [List.drop_zero, Nat.sub_zero, List.take_left]
theorem ext_last (x y : List Int) (hb : Bytes (x ++ y)) (n : Nat) (hn : n = (x ++ y).length) : (strOfNums (x ++ y)).extract x.length n = strOfNums y := by
  rw [ext_cut, nums_str _ hb]
  unfold cutZ
  rw [List.drop_left, List.take_of_length_le (by rw [hn, List.length_append]; omega)]
/-- What was joined is split. -/
theorem split_join {c : Int} (hc : 0 ≤ c ∧ c ≤ 255) : ∀ (r : List (List Int)) (d : List Int) (k : Nat), (∀ e ∈ d :: r, Bytes e ∧ c ∉ e) → r.length ≤ k → Lib.splitB (strOfNums [c]) 0 k (strOfNums (joinN c (d :: r))) = SB (d :: r)
  | [], d, k, h, _ => by
    have hd := h d (by simp)
    have e : joinN c [d] = d := by simp [joinN]
    rw [e]
    exact Lib.splitB_miss _ 0 k _ (idx_none1 hc d hd.1 hd.2)
  | e :: r, d, k, h, hk => by
    obtain ⟨k, rfl⟩ : ∃ j, k = j + 1 := ⟨k - 1, by simp at hk; omega⟩
    have hd := h d (by simp)
    have hj : joinN c (d :: e :: r) = d ++ c :: joinN c (e :: r) := by simp [joinN]
    have hbr : ∀ (r : List (List Int)), (∀ e ∈ r, Bytes e ∧ c ∉ e) → Bytes (joinN c r) := by
      intro r hr x hx
      cases r with
      | nil => simp [joinN] at hx
      | cons d r =>
        unfold joinN at hx
        rcases List.mem_append.1 hx with hx | hx
        · exact (hr d (by simp)).1 x hx
        · obtain ⟨l, hl, hx⟩ := List.mem_flatten.1 hx
          obtain ⟨p, hp, rfl⟩ := List.mem_map.1 hl
          rcases List.mem_cons.1 hx with rfl | hx
          · exact hc
          · exact (hr p (by simp [hp])).1 x hx
    have hb2 := hbr (e :: r) (fun p hp => h p (by simp [List.mem_cons.1 hp]))
    have hb3 : Bytes ((d ++ [c]) ++ joinN c (e :: r)) := (hd.1.app (fun x hx => by simp at hx; rw [hx]; exact hc)).app hb2
    have ih := split_join hc r e k (fun p hp => h p (by simp [List.mem_cons.1 hp])) (by simpa using hk)
    rw [hj, Lib.splitB_hit (strOfNums [c]) 0 k _ d.length (idx_one hc _ d hd.1 hd.2)]
    rw [show d.length + 0 = d.length from rfl, ext_first d (c :: joinN c (e :: r)) (by simpa using hb3)]
    have e2 : (strOfNums (d ++ c :: joinN c (e :: r))).extract (d.length + (strOfNums [c]).size) (strOfNums (d ++ c :: joinN c (e :: r))).size = strOfNums (joinN c (e :: r)) := by
      have := ext_last (d ++ [c]) (joinN c (e :: r)) hb3 (strOfNums (d ++ c :: joinN c (e :: r))).size (by rw [strOfNums_size]; simp)
      rw [List.append_assoc, List.length_append] at this
      rw [strOfNums_size]
      exact this
    rw [e2, ih]
    rfl

end Go.Proofs.YtpekpgmdjpcpiaaDoor

namespace Go.Proofs.YtpekpgmdjpcpiaaDoor
open Go.RowKit
set_option linter.unusedVariables false

theorem low_letter {c : Int} (h0 : 97 ≤ c) (h1 : c ≤ 102) : lowZ c = c := by
  have h : c = 97 ∨ c = 98 ∨ c = 99 ∨ c = 100 ∨ c = 101 ∨ c = 102 := by omega
  rcases h with rfl | rfl | rfl | rfl | rfl | rfl <;> decide
theorem chV_dig {c : Int} (h : digV c < 16) (h0 : 0 ≤ c) : chV c = digV c := by
  unfold digV at h ⊢
  unfold chV
  by_cases h1 : 48 ≤ c ∧ c ≤ 57
  · rw [if_pos h1]
    split <;> first | rfl | (split <;> omega) | omega
  · by_cases h2 : 97 ≤ c ∧ c ≤ 102
    · rw [if_neg h1, low_letter h2.1 h2.2, if_pos (by omega)]
      split <;> first | omega | (split <;> omega)
    · exfalso
      revert h
      split <;> first | omega | (split <;> omega)
theorem pu_num {b m : Int} (hb : b ≤ 16) : ∀ (xs : List Int) (k q : Int), (∀ x ∈ xs, 0 ≤ x) → numG b m k xs = q → 0 ≤ q → puZ b m k xs = q
  | [], k, q, _, h, _ => h
  | c :: cs, k, q, hx, h, h0 => by
    rw [numG] at h
    rw [puZ]
    split at h
    · omega
    · rename_i hc
      have hd : chV c = digV c := chV_dig (by omega) (hx c (by simp))
      rw [hd, if_neg (by omega), if_neg (by omega)]
      exact pu_num hb cs _ q (fun x h => hx x (by simp [h])) h h0
theorem puV_text {v : Bool} {A : List Int} (hA : Sixteen A) (i : Nat) : puV v (strOfNums (textG v A i)) = numF v A i := by
  have hr := numF_range (v := v) hA i
  have hb : Bytes (textG v A i) := by cases v <;> exact dig_byte (by decide) (by decide) _
  unfold puV
  rw [nums_str _ hb]
  have h1 := num_dig (b := famB v) (by cases v <;> decide) (by cases v <;> decide) (famM v).toNat (numF v A i).toNat (by
    cases v with
    | true => show (numF true A i).toNat ≤ 65535; omega
    | false => show (numF false A i).toNat ≤ 255; have := hr.2.2 rfl; omega)
  rw [show (((famM v).toNat : Nat) : Int) = famM v by cases v <;> rfl, show (((numF v A i).toNat : Nat) : Int) = numF v A i by omega] at h1
  exact pu_num (by cases v <;> decide) _ 0 _ (fun x hx => (hb x hx).1) h1 hr.1
/-- The bytes of groups. -/
def bytesG (v : Bool) (A : List Int) (i m : Nat) : List Int := (A.drop (famG v * i)).take (famG v * m)
theorem part_is {v : Bool} {A : List Int} (hA : Sixteen A) {i : Nat} (hi : i < famK v) : partB v (numF v A i) = partG v A i := by
  have h16 := hA.1
  cases v with
  | true =>
    have k8 : i < 8 := hi
    have x0 := sixteen_at hA (2 * i)
    have x1 := sixteen_at hA (2 * i + 1)
    show [(A[2 * i]?.getD 0 * 256 + A[2 * i + 1]?.getD 0) / 256, (A[2 * i]?.getD 0 * 256 + A[2 * i + 1]?.getD 0) % 256] = (A.drop (2 * i)).take 2
    rw [List.drop_eq_getElem_cons (by omega), List.drop_eq_getElem_cons (by omega)]
    rw [List.getElem?_eq_getElem (by omega), List.getElem?_eq_getElem (by omega)] at *
    simp only [Option.getD_some, List.take_succ_cons, List.take_zero] at *
    congr 1
    · omega
    · congr 1
      omega
  | false =>
    have k4 : i < 4 := hi
    show [A[i]?.getD 0] = (A.drop (1 * i)).take 1
    rw [Nat.one_mul, List.drop_eq_getElem_cons (by omega), List.getElem?_eq_getElem (by omega)]
    rfl
def grpV (v : Bool) (A : List Int) (i m : Nat) : List (List Int) := (List.range m).map fun j => textG v A (i + j)
theorem grpV_more (v : Bool) (A : List Int) (i m : Nat) : grpV v A i (m + 1) = grpV v A i m ++ [textG v A (i + m)] := by
  unfold grpV
  rw [List.range_succ, List.map_append]
  rfl
theorem groups_back {v : Bool} {A : List Int} (hA : Sixteen A) (i : Nat) : ∀ m, i + m ≤ famK v → groupsB v (SB (grpV v A i m)) = bytesG v A i m
  | 0, _ => by simp [grpV, SB, groupsB, bytesG]
  | m + 1, h => by
    have ih := groups_back (v := v) hA i m (by omega)
    have e : groupsB v (SB (grpV v A i (m + 1))) = groupsB v (SB (grpV v A i m)) ++ partB v (puV v (strOfNums (textG v A (i + m)))) := by
      rw [grpV_more]
      unfold SB groupsB
      simp
    rw [e, ih, puV_text hA, part_is (v := v) (i := i + m) hA (by omega)]
    unfold bytesG partG
    rw [show famG v * (m + 1) = famG v * m + famG v by rw [Nat.mul_add, Nat.mul_one], List.take_add, List.drop_drop, Nat.mul_add]
theorem grpV_ok {v : Bool} (A : List Int) (i m : Nat) : ∀ e ∈ grpV v A i m, Bytes e ∧ sepC v ∉ e := by
  intro e he
  obtain ⟨j, _, rfl⟩ := List.mem_map.1 he
  cases v with
  | true => exact ⟨dig_byte (by decide) (by decide) _, hex_no A _⟩
  | false => exact ⟨dig_byte (by decide) (by decide) _, (dig_plain (b := 10) (by decide) (by decide) _).no (.inl rfl)⟩
theorem textG_pos (v : Bool) (A : List Int) (i : Nat) : 1 ≤ (textG v A i).length := by
  cases v with
  | true => exact List.length_pos_iff.2 (hex_some A i)
  | false => exact List.length_pos_iff.2 (dig_some (b := 10) (by decide) _)
theorem join_long (c : Int) : ∀ (r : List (List Int)) (d : List Int), (∀ e ∈ d :: r, 1 ≤ e.length) → 2 * r.length + 1 ≤ (joinN c (d :: r)).length := by
  intro r
  induction r with
  | nil => intro d h; have := h d (by simp); simp [joinN]; omega
  | cons e r ih =>
    intro d h
    have h1 := ih e (fun p hp => h p (by simp [List.mem_cons.1 hp]))
    have hd := h d (by simp)
    have hj : joinN c (d :: e :: r) = d ++ c :: joinN c (e :: r) := by simp [joinN]
    rw [hj, List.length_append, List.length_cons, List.length_cons]
    omega
theorem pieces_back (v : Bool) (A : List Int) (i m : Nat) (h : m + 1 ≤ famK v) : piecesZ v (strOfNums (joinN (sepC v) (grpV v A i (m + 1)))) = SB (grpV v A i (m + 1)) := by
  obtain ⟨d, r, hdr⟩ : ∃ d r, grpV v A i (m + 1) = d :: r := by
    cases hg : grpV v A i (m + 1) with
    | nil => have := congrArg List.length hg; simp [grpV] at this
    | cons d r => exact ⟨d, r, rfl⟩
  have hl : r.length = m := by
    have := congrArg List.length hdr
    simp [grpV] at this
    omega
  have hok := grpV_ok (v := v) A i (m + 1)
  have hlong := join_long (sepC v) r d (fun e he => by
    rw [← hdr] at he
    obtain ⟨j, _, rfl⟩ := List.mem_map.1 he
    exact textG_pos v A _)
  rw [hdr] at hok ⊢
  unfold piecesZ
  rw [famS_is]
  refine split_join (by cases v <;> decide) r d _ hok ?_
  rw [strOfNums_size]
  omega

end Go.Proofs.YtpekpgmdjpcpiaaDoor

namespace Go.Proofs.YtpekpgmdjpcpiaaDoor
open Go.RowKit
set_option linter.unusedVariables false

/-- A length's digits. -/
def dig3 (n : Nat) : List Int := if n < 10 then [chrZ n] else if n < 100 then [chrZ (n / 10), chrZ (n % 10)] else [chrZ (n / 100), chrZ (n / 10 % 10), chrZ (n % 10)]
theorem dig3_is {n : Nat} (h : n < 1000) : digZ 10 n = dig3 n := by
  unfold dig3
  split
  · exact dig_small (by omega)
  · split
    · rw [dig_step (by omega) (by omega), dig_small (by omega)]
      rfl
    · rw [dig_step (by omega) (by omega), dig_step (by omega) (by omega), dig_small (by omega), show n / 10 / 10 = n / 100 by omega]
      rfl
theorem atoi_all : ((List.range 129).all fun n => decide (atoiV (strOfNums (dig3 n)) = (n : Int))) = true := by kernel_rfl
theorem atoi_dig {L : Int} (h0 : 0 ≤ L) (h1 : L ≤ 128) : atoiV (strOfNums (digZ 10 L.toNat)) = L := by
  have h := of_decide_eq_true (List.all_eq_true.1 atoi_all L.toNat (List.mem_range.2 (by omega)))
  rw [← dig3_is (by omega)] at h
  omega
theorem len_plain (L : Int) : Plain (digZ 10 L.toNat) := dig_plain (b := 10) (by decide) (by decide) _
theorem addr_bytes {A : List Int} (hA : Sixteen A) (v : Bool) : Bytes (addrT v A) := by
  cases v with
  | true => exact (six_ok hA).1
  | false => exact (four_ok hA).1
theorem addr_no47 (v : Bool) (A : List Int) : (47 : Int) ∉ addrT v A := by
  cases v with
  | true => exact (six_colons A).no (.inr rfl)
  | false => exact four_no47
/-- The text, cut at the stroke. -/
theorem cut_text {v : Bool} {A : List Int} {L : Int} (hA : Sixteen A) : cutB (strOfNums (textZ v A L)) ⟨#[47]⟩ = (strOfNums (addrT v A), strOfNums (digZ 10 L.toNat), true) := by
  have e : textZ v A L = addrT v A ++ ([47] ++ digZ 10 L.toNat) := by
    unfold textZ addrT
    rw [List.append_assoc]
  rw [e]
  exact cutB_hit (sep := [47]) (idx_one (by omega) _ _ (addr_bytes hA v) (addr_no47 v A))
theorem four_no58 (A : List Int) : (58 : Int) ∉ fourZ A := by
  have np : ∀ q, (58 : Int) ∉ decZ A q := fun q => (dig_plain (b := 10) (by decide) (by decide) _).no (.inr (.inr rfl))
  unfold fourZ
  simp [np]
theorem colon_is (xs : List Int) : hasColon (strOfNums xs) = decide (0 ≤ Lib.index (toB xs) (toB [58])) := by
  unfold hasColon
  rw [← Lib.index_one]
  rfl
theorem grpV_true (A : List Int) (i m : Nat) : grpV true A i m = grpT A i m := rfl
theorem grpT_ok (A : List Int) (i m : Nat) : ∀ e ∈ grpT A i m, Bytes e ∧ (58 : Int) ∉ e := grpV_ok (v := true) A i m
/-- What was joined has no two colons side by side. -/
theorem join_cc : ∀ (r : List (List Int)) (d : List Int), (∀ e ∈ d :: r, (58 : Int) ∉ e ∧ e ≠ []) → okCC (joinN 58 (d :: r))
  | [], d, h => by
    have e : joinN 58 [d] = d := by simp [joinN]
    rw [e]
    exact okCC_plain d (h d (by simp)).1
  | e :: r, d, h => by
    have ih := join_cc r e (fun p hp => h p (by simp [List.mem_cons.1 hp]))
    have hj : joinN 58 (d :: e :: r) = d ++ 58 :: joinN 58 (e :: r) := by simp [joinN]
    have he := h e (by simp)
    rw [hj]
    cases e with
    | nil => exact absurd rfl he.2
    | cons y t =>
      have hy : y ≠ 58 := fun e => he.1 (by simp [e])
      exact okCC_app hy ih d (h d (by simp)).1 (h d (by simp)).2
theorem grp_cc (A : List Int) (i m : Nat) : okCC (joinN 58 (grpT A i m)) := by
  cases hg : grpT A i m with
  | nil => exact trivial
  | cons d r =>
    refine join_cc r d (fun e he => ?_)
    rw [← hg] at he
    obtain ⟨j, _, rfl⟩ := List.mem_map.1 he
    exact ⟨hex_no A _, hex_some A _⟩
theorem join_bytes (A : List Int) (i m : Nat) : Bytes (joinN 58 (grpT A i m)) := by
  intro x hx
  have hok := grpT_ok A i m
  cases hg : grpT A i m with
  | nil => rw [hg] at hx; simp [joinN] at hx
  | cons d r =>
    rw [hg] at hx hok
    unfold joinN at hx
    rcases List.mem_append.1 hx with hx | hx
    · exact (hok d (by simp)).1 x hx
    · obtain ⟨l, hl, hx⟩ := List.mem_flatten.1 hx
      obtain ⟨p, hp, rfl⟩ := List.mem_map.1 hl
      rcases List.mem_cons.1 hx with rfl | hx
      · omega
      · exact (hok p (by simp [hp])).1 x hx
/-- What the parser makes of groups that were joined. -/
theorem back_groups {A : List Int} (hA : Sixteen A) (i m : Nat) (h : i + (m + 1) ≤ 8) : groupsB true (piecesZ true (strOfNums (joinN 58 (grpT A i (m + 1))))) = (A.drop (2 * i)).take (2 * (m + 1)) := by
  have e := pieces_back true A i m (by show m + 1 ≤ 8; omega)
  rw [show sepC true = 58 from rfl, grpV_true] at e
  rw [e, ← grpV_true, groups_back (v := true) hA i (m + 1) h]
  rfl
theorem back_none : groupsB true (piecesZ true (strOfNums [])) = [0, 0] := by
  have e : piecesZ true (strOfNums []) = [strOfNums []] := by
    unfold piecesZ
    rfl
  rw [e]
  rfl
theorem getD_app (x y : List Int) (q : Nat) : (x ++ y)[q]?.getD 0 = if q < x.length then x[q]?.getD 0 else y[q - x.length]?.getD 0 := by
  split
  · rw [List.getElem?_append_left (by assumption)]
  · rw [List.getElem?_append_right (by omega)]
theorem copyAt_at {A G : List Int} {o : Nat} (hA : A.length = 16) (h : o + G.length ≤ 16) (q : Nat) (hq : q < 16) : (copyAt A G o)[q]?.getD 0 = if o ≤ q ∧ q < o + G.length then G[q - o]?.getD 0 else A[q]?.getD 0 := by
  unfold copyAt
  have l1 : (A.take o).length = o := by rw [List.length_take]; omega
  rw [List.append_assoc, getD_app, l1]
  split
  · rw [if_neg (by omega), List.getElem?_take, if_pos (by assumption)]
  · rw [getD_app]
    split
    · rw [if_pos (by omega)]
    · rw [if_neg (by omega), List.getElem?_drop]
      congr 2
      omega
theorem part_at (A : List Int) (i m q : Nat) (hq : q < m) : ((A.drop i).take m)[q]?.getD 0 = A[i + q]?.getD 0 := by
  rw [List.getElem?_take, if_pos hq, List.getElem?_drop]
theorem zero_q (q : Nat) : zeroA[q]?.getD 0 = 0 := zero_at q

end Go.Proofs.YtpekpgmdjpcpiaaDoor

namespace Go.Proofs.YtpekpgmdjpcpiaaDoor
open Go.RowKit
set_option linter.unusedVariables false

theorem four_grp (A : List Int) : fourZ A = joinN 46 (grpV false A 0 4) := (four_join A).symm
theorem row_two (A : List Int) (h : ¬ (rowZ A).2 = 0) : 2 ≤ (rowZ A).2 := by
  unfold rowZ at h ⊢
  split at h
  · exact absurd rfl h
  · rename_i h2
    rw [if_neg h2]
    omega
theorem zero_run {A : List Int} (hA : Sixteen A) {q : Nat} (h1 : 2 * (rowZ A).1 ≤ q) (h2 : q < 2 * ((rowZ A).1 + (rowZ A).2)) : A[q]?.getD 0 = 0 := by
  have h := row_nought A (q / 2 - (rowZ A).1) (by omega)
  rw [show (rowZ A).1 + (q / 2 - (rowZ A).1) = q / 2 by omega] at h
  have hz := grp_nought hA h
  rcases Nat.mod_two_eq_zero_or_one q with hm | hm
  · rw [show q = 2 * (q / 2) by omega]
    exact hz.1
  · rw [show q = 2 * (q / 2) + 1 by omega]
    exact hz.2
/-- The bytes of the groups ahead of the run, and behind it. -/
theorem ahead_bytes {A : List Int} (hA : Sixteen A) (h : 2 ≤ (rowZ A).2) : ∃ G, groupsB true (piecesZ true (strOfNums (joinN 58 (grpT A 0 (rowZ A).1)))) = G ∧ G.length ≤ 2 * ((rowZ A).1 + (rowZ A).2) ∧ 2 * (rowZ A).1 ≤ G.length ∧ ∀ q, q < G.length → G[q]?.getD 0 = A[q]?.getD 0 := by
  have hr := (row_le A).1
  have h16 := hA.1
  cases hf : (rowZ A).1 with
  | zero =>
    refine ⟨[0, 0], by rw [show grpT A 0 0 = [] from rfl]; exact back_none, by simp; omega, by simp, fun q hq => ?_⟩
    have hq2 : q < 2 := by simpa using hq
    rw [zero_run hA (by rw [hf]; omega) (by rw [hf]; omega)]
    have : q = 0 ∨ q = 1 := by omega
    rcases this with rfl | rfl <;> rfl
  | succ f =>
    have hl : ((A.drop (2 * 0)).take (2 * (f + 1))).length = 2 * (f + 1) := by rw [List.length_take, List.length_drop]; omega
    refine ⟨(A.drop (2 * 0)).take (2 * (f + 1)), back_groups hA 0 f (by omega), by rw [hl]; omega, by rw [hl]; omega, fun q hq => ?_⟩
    rw [hl] at hq
    rw [part_at A _ _ q hq]
    congr 2
    omega
theorem behind_bytes {A : List Int} (hA : Sixteen A) (h : 2 ≤ (rowZ A).2) : ∃ G, groupsB true (piecesZ true (strOfNums (joinN 58 (grpT A ((rowZ A).1 + (rowZ A).2) (8 - (rowZ A).1 - (rowZ A).2))))) = G ∧ G.length ≤ 16 - 2 * (rowZ A).1 ∧ 16 - 2 * ((rowZ A).1 + (rowZ A).2) ≤ G.length ∧ ∀ q, q < G.length → G[q]?.getD 0 = A[16 - G.length + q]?.getD 0 := by
  have hr := (row_le A).1
  have h16 := hA.1
  cases hf : 8 - (rowZ A).1 - (rowZ A).2 with
  | zero =>
    refine ⟨[0, 0], by rw [show grpT A ((rowZ A).1 + (rowZ A).2) 0 = [] from rfl]; exact back_none, by simp; omega, by simp; omega, fun q hq => ?_⟩
    have hq2 : q < 2 := by simpa using hq
    show _ = A[16 - 2 + q]?.getD 0
    rw [zero_run hA (by omega) (by omega)]
    have : q = 0 ∨ q = 1 := by omega
    rcases this with rfl | rfl <;> rfl
  | succ m =>
    have hl : ((A.drop (2 * ((rowZ A).1 + (rowZ A).2))).take (2 * (m + 1))).length = 2 * (m + 1) := by rw [List.length_take, List.length_drop]; omega
    refine ⟨(A.drop (2 * ((rowZ A).1 + (rowZ A).2))).take (2 * (m + 1)), back_groups hA _ m (by omega), by rw [hl]; omega, by rw [hl]; omega, fun q hq => ?_⟩
    rw [hl] at hq
    rw [part_at A _ _ q hq, hl]
    congr 2
    omega
theorem parse_text {v : Bool} {A : List Int} {L : Int} (hA : Sixteen A) (hr : rightA v A L = true) :
    parseV (strOfNums (textZ v A L)) = v ∧ parseA (strOfNums (textZ v A L)) = A ∧ parseL (strOfNums (textZ v A L)) = L := by
  obtain ⟨l0, l1, _⟩ := (right_is ..).1 hr
  have l128 : L ≤ 128 := by have := most_le v; omega
  have h16 := hA.1
  have hc := cut_text (v := v) (L := L) hA
  have hL : parseL (strOfNums (textZ v A L)) = L := by
    unfold parseL
    rw [hc]
    exact atoi_dig l0 l128
  have ab := addr_bytes hA v
  cases v with
  | false =>
    have m2 : cutB (strOfNums (addrT false A)) ⟨#[58, 58]⟩ = (strOfNums (addrT false A), strOfNums [], false) := cutB_miss (sep := [58, 58]) (idx_none2 _ ab (okCC_plain _ (four_no58 A)))
    have hn : hasColon (strOfNums (addrT false A)) = false := by
      rw [colon_is, idx_none1 (by omega) _ ab (four_no58 A)]
      rfl
    refine ⟨?_, ?_, hL⟩
    · unfold parseV
      simp only [hc, m2, hn]
      rfl
    · unfold parseA
      simp only [hc, m2]
      rw [if_neg (by decide), if_neg (by rw [hn]; decide)]
      have e1 : groupsB false (piecesZ false (strOfNums (addrT false A))) = bytesG false A 0 4 := by
        show groupsB false (piecesZ false (strOfNums (fourZ A))) = _
        rw [four_grp A]
        have e := pieces_back false A 0 3 (by decide)
        rw [show sepC false = 46 from rfl] at e
        rw [e]
        exact groups_back (v := false) hA 0 4 (by decide)
      rw [e1]
      have hl : (bytesG false A 0 4).length = 4 := by
        show ((A.drop (1 * 0)).take (1 * 4)).length = 4
        rw [List.length_take, List.length_drop]
        omega
      refine ext16 (copyAt_ok (G := bytesG false A 0 4) zeroA_ok (fun x hx => hA.2 x (List.mem_of_mem_drop (List.mem_of_mem_take hx))) (by rw [hl]; omega)).1 h16 (fun q hq => ?_)
      rw [copyAt_at zeroA_ok.1 (by rw [hl]; omega) q hq, hl]
      split
      · show ((A.drop (1 * 0)).take (1 * 4))[q - 0]?.getD 0 = _
        rw [part_at A _ _ _ (by omega)]
        congr 2
        omega
      · rw [zero_q]
        exact (right_noughts hA hr q (by omega) hq).symm
  | true =>
    by_cases h0 : (rowZ A).2 = 0
    · have eX : addrT true A = joinN 58 (grpT A 0 8) := by
        show sixZ A = _
        rw [six_join, if_pos h0]
      have m2 : cutB (strOfNums (addrT true A)) ⟨#[58, 58]⟩ = (strOfNums (addrT true A), strOfNums [], false) := cutB_miss (sep := [58, 58]) (idx_none2 _ ab (by rw [eX]; exact grp_cc A 0 8))
      have hn : hasColon (strOfNums (addrT true A)) = true := by
        have e2 : addrT true A = hexG A 0 ++ 58 :: joinN 58 (grpT A 1 7) := by
          rw [eX]
          show joinN 58 (hexG A (0 + 0) :: _) = _
          rfl
        rw [colon_is, e2, idx_one (by omega) _ _ (hexG_ok hA 0).1 (hex_no A 0)]
        exact decide_eq_true (by omega)
      refine ⟨?_, ?_, hL⟩
      · unfold parseV
        simp only [hc, m2, hn]
        rfl
      · unfold parseA
        simp only [hc, m2]
        rw [if_neg (by decide), if_pos hn]
        unfold midA
        rw [eX, back_groups hA 0 7 (by omega)]
        have e1 : (A.drop (2 * 0)).take (2 * (7 + 1)) = A := by
          show A.take 16 = A
          exact List.take_of_length_le (by omega)
        rw [e1, h16]
        show copyAt zeroA A 0 = A
        unfold copyAt
        rw [h16]
        show [] ++ A ++ zeroA.drop 16 = A
        rw [show zeroA.drop 16 = [] from rfl]
        simp
    · have h2 := row_two A h0
      have hfn := (row_le A).1
      obtain ⟨G1, g1, g2, g3, g4⟩ := ahead_bytes hA h2
      obtain ⟨G2, k1, k2, k3, k4⟩ := behind_bytes hA h2
      have eX : addrT true A = joinN 58 (grpT A 0 (rowZ A).1) ++ ([58, 58] ++ joinN 58 (grpT A ((rowZ A).1 + (rowZ A).2) (8 - (rowZ A).1 - (rowZ A).2))) := by
        show sixZ A = _
        rw [six_join, if_neg h0, List.append_assoc]
      have m2 : cutB (strOfNums (addrT true A)) ⟨#[58, 58]⟩ = (strOfNums (joinN 58 (grpT A 0 (rowZ A).1)), strOfNums (joinN 58 (grpT A ((rowZ A).1 + (rowZ A).2) (8 - (rowZ A).1 - (rowZ A).2))), true) := by
        rw [eX]
        exact cutB_hit (sep := [58, 58]) (idx_two _ _ (join_bytes A _ _) (grp_cc A _ _))
      refine ⟨?_, ?_, hL⟩
      · unfold parseV
        simp only [hc, m2]
        rfl
      · unfold parseA
        simp only [hc, m2]
        rw [if_pos trivial]
        unfold midA
        have b1 := groupsB_le true (strOfNums (joinN 58 (grpT A 0 (rowZ A).1)))
        have b2 := groupsB_le true (strOfNums (joinN 58 (grpT A ((rowZ A).1 + (rowZ A).2) (8 - (rowZ A).1 - (rowZ A).2))))
        have y1 := groupsB_byte true (piecesZ true (strOfNums (joinN 58 (grpT A 0 (rowZ A).1))))
        have y2 := groupsB_byte true (piecesZ true (strOfNums (joinN 58 (grpT A ((rowZ A).1 + (rowZ A).2) (8 - (rowZ A).1 - (rowZ A).2)))))
        rw [g1] at b1 y1 ⊢
        rw [k1] at b2 y2 ⊢
        have o1 := copyAt_ok (o := 0) zeroA_ok y1 (by omega)
        refine ext16 (copyAt_ok o1 y2 (by omega)).1 h16 (fun q hq => ?_)
        rw [copyAt_at o1.1 (by omega) q hq]
        split
        · rw [k4 _ (by omega), show 16 - G2.length + (q - (16 - G2.length)) = q by omega]
        · rw [copyAt_at zeroA_ok.1 (by omega) q hq]
          split
          · rw [Nat.sub_zero]
            exact g4 q (by omega)
          · rw [zero_q]
            exact (zero_run hA (by omega) (by omega)).symm

end Go.Proofs.YtpekpgmdjpcpiaaDoor

namespace Go.Proofs.YtpekpgmdjpcpiaaDoor
open Go.RowKit
set_option linter.unusedVariables false

/-- The document's Read: the prefix whose text it is, else none. -/
def GivesDoc (s : ByteArray) (w : World) (e : Ending) (w' : World) : Prop :=
  Below w.heap.size w w' ∧ ((∃ v A L, Sixteen A ∧ rightA v A L = true ∧ strOfNums (textZ v A L) = s ∧ e = .returned (.tuple #[.agg (pcells v A L), .int .i64 0])) ∨ ((∀ v A L, Sixteen A → rightA v A L = true → strOfNums (textZ v A L) ≠ s) ∧ e = .returned (.tuple #[.agg ZP, .int .i64 2])))

set_option maxHeartbeats 1000000 in
set_option maxRecDepth 10000 in
theorem read_any (s : ByteArray) (w : World) (hn : s.size ≤ 4000000) (hs : Std w) :
    Calls Tryd.prog 12 #[.string s] w (GivesDoc s w) := by
  have BR := Lib.hid (Blk.new w 24 ZP)
  have BW := Lib.hid (box_below w (.cells ZP 24))
  have HW := Lib.hid hs
  have CP := Lib.hid (pparse_any s _ hn (hs.later BW.out))
  have AO := Lib.hid (parseA_ok s)
  have LR := Lib.hid (show -9223372036854775808 ≤ parseL s ∧ parseL s ≤ 9223372036854775807 from atoiV_range _)
  have PT := Lib.hid (fun v A L (hA : Sixteen A) (hr : rightA v A L = true) (ht : strOfNums (textZ v A L) = s) => by
    have h := parse_text hA hr
    rw [ht] at h
    exact h)
  clear hs
  generalize hV : parseV s = v at *
  generalize hAA : parseA s = A at *
  generalize hLL : parseL s = L at *
  clear hV hAA hLL
  have a16 := AO.out.1
  have ZS := Lib.hid (Tryd.sizeP (v := v) (L := L) a16)
  have ZE : Hid (ZP.size = (pcells v A L).size) := Lib.hid (by rw [pcells_size a16]; rfl)
  have P1 := Lib.hid (pcells_one v A L)
  have SZP : Hid ((Tryd.prog.info? 24).map (·.size) = some ZP.size) := Lib.hid (by kernel_rfl)
  have ZP1 := Lib.hid (pcells_one false (List.replicate 16 0) 0)
  go_enter Tryd.func12, Tryd.ntmps12
  generalize hw2 : w.alloc (.cells ZP 24) = w2 at *
  go_upto_region 2 with (first
    | (refine Great.wpList_allocTo rfl (some 2) rfl (.pointer (some ⟨w.heap.size, 0, none⟩)) (.cells ZP 24) rfl ?_; rw [hw2]; clear hw2)
    | (go_at_call 26; refine CP.out.mono ?_; rintro e w3 ⟨rfl, hb3⟩; have B3 := Lib.hid (Below.step BW.out hb3); have R3 := Lib.hid (BR.out.below hb3 BR.out.lt); have S3 := Lib.hid (Blk.new w3 24 ZP); clear hb3 CP)
    | (refine Great.wpList_allocTo rfl (some 4) rfl (.pointer (some ⟨w3.heap.size, 0, none⟩)) (.cells ZP 24) rfl ?_)
    | (refine wpList_store_rowTo rfl 24 (.tmp 4) (.tmp 8) rfl rfl w3.heap.size (pcells v A L) rfl rfl 24 ZP S3.out ZS.out ZE.out P1.out ?_))
  simp only [Act.put, List.setIfInBounds_toArray, List.set_cons_zero, List.set_cons_succ]
  have P4 : Hid (PBlk ((w3.alloc (.cells ZP 24)).setRow w3.heap.size (pcells v A L)) w3.heap.size v A L) := Lib.hid (setRow_heap _ _ _ _ _ _ S3.out)
  have b4 : Below w3.heap.size w3 ((w3.alloc (.cells ZP 24)).setRow w3.heap.size (pcells v A L)) := below_setRow (box_below w3 (.cells ZP 24)) (Nat.le_refl _) _
  have B4 := Lib.hid (Below.step B3.out b4)
  have R4 := Lib.hid (R3.out.below b4 R3.out.lt)
  have H4 := Lib.hid (HW.out.later B4.out)
  clear b4 B3 R3 S3 BR BW
  generalize (w3.alloc (.cells ZP 24)).setRow w3.heap.size (pcells v A L) = w4 at *
  generalize w3.heap.size = g4 at *
  have CT := Lib.hid (text_any v A L w4 AO.out LR.out.1 LR.out.2 H4.out)
  go_upto_region 3 with (first
    | (refine wpList_load_row rfl 24 (.tmp 4) rfl g4 rfl 24 (pcells v A L) (0, 0) _ P4.out Tryd.underlying24 rfl ZS.out ?_)
    | (go_at_call 10; refine CT.out.mono ?_; rintro e w5 ⟨rfl, hb5⟩; have B5 := Lib.hid (Below.step B4.out hb5); have R5 := Lib.hid (R4.out.below hb5 R4.out.lt); have P5 := Lib.hid (P4.out.below hb5 P4.out.lt); clear hb5 CT))
  have GN : Hid ((∀ v' A' L', Sixteen A' → rightA v' A' L' = true → strOfNums (textZ v' A' L') ≠ s) → ∀ W, Below w.heap.size w W → GivesDoc s w (.returned (.tuple #[.agg ZP, .int .i64 2])) W) := Lib.hid (fun h W hb => ⟨hb, .inr ⟨h, rfl⟩⟩)
  have none : ∀ (hx : ∀ v' A' L', Sixteen A' → rightA v' A' L' = true → strOfNums (textZ v' A' L') ≠ s), Hid (∀ W, Below w.heap.size w W → GivesDoc s w (.returned (.tuple #[.agg ZP, .int .i64 2])) W) := fun hx => Lib.hid (GN.out hx)
  have HNone := Lib.hid none
  clear none GN
  by_cases hr : rightA v A L = true
  · have TE : strOfNums (textE v A L) = strOfNums (textZ v A L) := by rw [show textE v A L = textZ v A L from if_pos hr]
    have TR : textR v A L = 0 := if_pos hr
    rw [TE, TR]
    clear TE TR
    by_cases hT : strOfNums (textZ v A L) = s
    · have GY : Hid (∀ W, Below w.heap.size w W → GivesDoc s w (.returned (.tuple #[.agg (pcells v A L), .int .i64 0])) W) := Lib.hid (fun W hb => ⟨hb, .inl ⟨v, A, L, AO.out, hr, hT, rfl⟩⟩)
      rw [hT]
      clear hT HNone
      go_wp2_with (first
        | (refine wpList_load_row rfl 24 (.tmp 4) rfl g4 rfl 24 (pcells v A L) (0, 0) _ P5.out Tryd.underlying24 rfl ZS.out ?_)
        | (refine wpList_store_rowTo rfl 24 (.tmp 2) (.tmp 22) rfl rfl w.heap.size (pcells v A L) rfl rfl 24 ZP R5.out ZS.out ZE.out P1.out ?_))
      exact bodyPost_ret (results_row_val (p := 2) (u := 3) rfl _ _ w.heap.size 24 (pcells v A L) (0, 0) _ rfl (setRow_heap _ _ _ _ 24 _ R5.out) Tryd.underlying24 rfl ZS.out) rfl (GY.out _ (below_setRow B5.out (Nat.le_refl _) _))
    · have NO := HNone.out (fun v' A' L' hA' hr' ht => by
        obtain ⟨rfl, rfl, rfl⟩ := PT.out v' A' L' hA' hr' ht
        exact hT ht)
      have tn : ((strOfNums (textZ v A L)).toList == s.toList) = false := str_no hT
      generalize strOfNums (textZ v A L) = T at *
      clear hT HNone PT
      go_wp2_with (first
        | (refine wpList_buildTo rfl 24 #[] rfl (some 21) rfl ZP (by kernel_rfl) ?_)
        | (refine wpList_store_rowTo rfl 24 (.tmp 2) (.tmp 21) rfl rfl w.heap.size ZP rfl rfl 24 ZP R5.out SZP.out rfl ZP1.out ?_))
      exact bodyPost_ret (results_row_val (p := 2) (u := 3) rfl _ _ w.heap.size 24 ZP (0, 0) _ rfl (setRow_heap _ _ _ _ 24 _ R5.out) Tryd.underlying24 rfl SZP.out) rfl (NO.out _ (below_setRow B5.out (Nat.le_refl _) _))
  · have NO := HNone.out (fun v' A' L' hA' hr' ht => by
      obtain ⟨rfl, rfl, rfl⟩ := PT.out v' A' L' hA' hr' ht
      exact hr hr')
    have TR : textR v A L = 1 := if_neg hr
    rw [TR]
    generalize strOfNums (textE v A L) = T at *
    clear HNone PT TR hr
    go_wp2_with (first
      | (refine wpList_buildTo rfl 24 #[] rfl (some 21) rfl ZP (by kernel_rfl) ?_)
      | (refine wpList_store_rowTo rfl 24 (.tmp 2) (.tmp 21) rfl rfl w.heap.size ZP rfl rfl 24 ZP R5.out SZP.out rfl ZP1.out ?_))
    exact bodyPost_ret (results_row_val (p := 2) (u := 3) rfl _ _ w.heap.size 24 ZP (0, 0) _ rfl (setRow_heap _ _ _ _ 24 _ R5.out) Tryd.underlying24 rfl SZP.out) rfl (NO.out _ (below_setRow B5.out (Nat.le_refl _) _))

end Go.Proofs.YtpekpgmdjpcpiaaDoor

namespace Go.Proofs.YtpekpgmdjpcpiaaDoor
open Go.RowKit
set_option linter.unusedVariables false

/-- A valid prefix's text is read as the prefix. -/
theorem doc_one {s : ByteArray} {v : Bool} {A : List Int} {L : Int} (hA : Sixteen A) (hr : rightA v A L = true) (ht : strOfNums (textZ v A L) = s) {w w' : World} {e : Ending} (h : GivesDoc s w e w') :
    e = .returned (.tuple #[.agg (pcells v A L), .int .i64 0]) ∧ Below w.heap.size w w' := by
  refine ⟨?_, h.1⟩
  rcases h.2 with ⟨u, B, M, hB, kr, kt, rfl⟩ | ⟨hn, rfl⟩
  · obtain ⟨rfl, rfl, rfl⟩ := text_one hB hA kr hr (kt.trans ht.symm)
    rfl
  · exact absurd ht (hn v A L hA hr)
/-- Two that answer as the document asks answer the same. -/
theorem doc_same {s : ByteArray} {w w' x x' : World} {e f : Ending} (h : GivesDoc s w e w') (k : GivesDoc s x f x') : e = f := by
  rcases h.2 with ⟨u, B, M, hB, kr, kt, rfl⟩ | ⟨hn, rfl⟩
  · exact (doc_one hB kr kt k).1.symm
  · rcases k.2 with ⟨u, B, M, hB, kr, kt, rfl⟩ | ⟨_, rfl⟩
    · exact absurd kt (hn u B M hB kr)
    · rfl

def tenA : List Int := 10 :: List.replicate 15 0
def subA : List Int := 10 :: 1 :: List.replicate 14 0
theorem ten_ok : Sixteen tenA := ⟨rfl, by decide⟩
theorem sub_ok : Sixteen subA := ⟨rfl, by decide⟩
theorem ten_right : rightA false tenA 8 = true := by decide
theorem sub_right : rightA false subA 16 = true := by decide
theorem nil_right : rightA true zeroA 0 = true := by decide
theorem dig_one {b n : Nat} (h : n < b) : digZ b n = [chrZ n] := dig_small h
theorem ten_text : strOfNums (textZ false tenA 8) = ⟨#[49, 48, 46, 48, 46, 48, 46, 48, 47, 56]⟩ := by
  have e : textZ false tenA 8 = [49, 48, 46, 48, 46, 48, 46, 48, 47, 56] := by
    show (digZ 10 10 ++ [46] ++ digZ 10 0 ++ [46] ++ digZ 10 0 ++ [46] ++ digZ 10 0) ++ [47] ++ digZ 10 8 = _
    rw [dig_step (by omega) (by omega), dig_small (n := 10 / 10) (by omega), dig_small (n := 0) (by omega), dig_small (n := 8) (by omega)]
    rfl
  rw [e]
  rfl
theorem sub_text : strOfNums (textZ false subA 16) = ⟨#[49, 48, 46, 49, 46, 48, 46, 48, 47, 49, 54]⟩ := by
  have e : textZ false subA 16 = [49, 48, 46, 49, 46, 48, 46, 48, 47, 49, 54] := by
    show (digZ 10 10 ++ [46] ++ digZ 10 1 ++ [46] ++ digZ 10 0 ++ [46] ++ digZ 10 0) ++ [47] ++ digZ 10 16 = _
    rw [dig_step (n := 10) (by omega) (by omega), dig_step (n := 16) (by omega) (by omega), dig_small (n := 10 / 10) (by omega), dig_small (n := 0) (by omega)]
    rfl
  rw [e]
  rfl
theorem nil_text : strOfNums (textE true zeroA 0) = ⟨#[58, 58, 47, 48]⟩ := by
  have e : textE true zeroA 0 = [58, 58, 47, 48] := by
    rw [show textE true zeroA 0 = textZ true zeroA 0 from if_pos nil_right]
    show sixZ zeroA ++ [47] ++ digZ 10 0 = _
    rw [dig_small (n := 0) (by omega), show sixZ zeroA = [58, 58] by decide]
    rfl
  rw [e]
  rfl

set_option maxHeartbeats 1000000 in
set_option maxRecDepth 100000 in
theorem awake_any (w : World) (hs : Std w) : Calls Tryd.prog 9 #[] w fun e w' => e = .returned (.bool true) ∧ Below w.heap.size w w' := by
  have HW := Lib.hid hs
  have CP := Lib.hid (fun W (h : Std W) => (read_any ⟨#[49, 48, 46, 48, 46, 48, 46, 48, 47, 56]⟩ W (by decide) h).mono fun e w' h => doc_one ten_ok ten_right ten_text h)
  have CQ := Lib.hid (fun W (h : Std W) => (read_any ⟨#[49, 48, 46, 49, 46, 48, 46, 48, 47, 49, 54]⟩ W (by decide) h).mono fun e w' h => doc_one sub_ok sub_right sub_text h)
  have CT := Lib.hid (fun W (h : Std W) => text_any true zeroA 0 W zeroA_ok (by decide) (by decide) h)
  rw [nil_text, show textR true zeroA 0 = 0 from if_pos nil_right] at CT
  have C1 := Lib.hid (fun W => covers_any false tenA 8 false subA 16 W ten_ok (by decide) (by decide) sub_ok (by decide) (by decide))
  have C2 := Lib.hid (fun W => covers_any false subA 16 false tenA 8 W sub_ok (by decide) (by decide) ten_ok (by decide) (by decide))
  rw [show coversA false tenA 8 false subA 16 = true by decide] at C1
  rw [show coversA false subA 16 false tenA 8 = false by decide] at C2
  have ZT := Lib.hid (Tryd.sizeP (A := tenA) (v := false) (L := 8) rfl)
  have ZU := Lib.hid (Tryd.sizeP (A := subA) (v := false) (L := 16) rfl)
  have P1 := Lib.hid (pcells_one false tenA 8)
  have P2 := Lib.hid (pcells_one false subA 16)
  have ET : Hid (ZP.size = (pcells false tenA 8).size) := Lib.hid rfl
  have EU : Hid (ZP.size = (pcells false subA 16).size) := Lib.hid rfl
  generalize hT : pcells false tenA 8 = T at *
  generalize hU : pcells false subA 16 = U at *
  clear hT hU hs
  go_enter Tryd.func9, Tryd.ntmps9
  go_upto_region 2 with (first
    | (go_at_call 12; refine (CP.out _ HW.out).mono ?_; rintro e w3 ⟨rfl, hb3⟩; have B3 := Lib.hid hb3; have S3 := Lib.hid (Blk.new w3 24 ZP); clear hb3 CP)
    | (refine Great.wpList_allocTo rfl (some 1) rfl (.pointer (some ⟨w3.heap.size, 0, none⟩)) (.cells ZP 24) rfl ?_)
    | (refine wpList_store_rowTo rfl 24 (.tmp 1) (.tmp 9) rfl rfl w3.heap.size T rfl rfl 24 ZP S3.out ZT.out ET.out P1.out ?_))
  try simp only [Act.put, List.setIfInBounds_toArray, List.set_cons_zero, List.set_cons_succ]
  have P4 : Hid (Blk ((w3.alloc (.cells ZP 24)).setRow w3.heap.size T) w3.heap.size 24 T) := Lib.hid (setRow_heap _ _ _ _ _ _ S3.out)
  have b4 : Below w3.heap.size w3 ((w3.alloc (.cells ZP 24)).setRow w3.heap.size T) := below_setRow (box_below w3 (.cells ZP 24)) (Nat.le_refl _) _
  have B4 := Lib.hid (Below.step B3.out b4)
  clear b4 B3 S3
  generalize (w3.alloc (.cells ZP 24)).setRow w3.heap.size T = w4 at *
  generalize w3.heap.size = g4 at *
  have H4 := Lib.hid (HW.out.later B4.out)
  go_upto_region 3 with (first
    | (go_at_call 12; refine (CQ.out _ H4.out).mono ?_; rintro e w5 ⟨rfl, hb5⟩; have B5 := Lib.hid (Below.step B4.out hb5); have P5 := Lib.hid (Blk.below P4.out hb5 P4.out.lt); have S5 := Lib.hid (Blk.new w5 24 ZP); clear hb5 CQ)
    | (refine Great.wpList_allocTo rfl (some 3) rfl (.pointer (some ⟨w5.heap.size, 0, none⟩)) (.cells ZP 24) rfl ?_)
    | (refine wpList_store_rowTo rfl 24 (.tmp 3) (.tmp 13) rfl rfl w5.heap.size U rfl rfl 24 ZP S5.out ZU.out EU.out P2.out ?_))
  try simp only [Act.put, List.setIfInBounds_toArray, List.set_cons_zero, List.set_cons_succ]
  have U6 : Hid (Blk ((w5.alloc (.cells ZP 24)).setRow w5.heap.size U) w5.heap.size 24 U) := Lib.hid (setRow_heap _ _ _ _ _ _ S5.out)
  have b6 : Below w5.heap.size w5 ((w5.alloc (.cells ZP 24)).setRow w5.heap.size U) := below_setRow (box_below w5 (.cells ZP 24)) (Nat.le_refl _) _
  have B6 := Lib.hid (Below.step B5.out b6)
  have P6 := Lib.hid (Blk.below P5.out b6 P5.out.lt)
  clear b6 B5 P5 S5 B4 P4 H4
  generalize (w5.alloc (.cells ZP 24)).setRow w5.heap.size U = w6 at *
  generalize w5.heap.size = g6 at *
  have H6 := Lib.hid (HW.out.later B6.out)
  generalize hz : pcells true zeroA 0 = Z at *
  go_upto_region 4 with (first
    | (refine wpList_buildTo rfl 24 #[(0, .const (.bool true))] rfl (some 16) rfl Z (by rw [← hz]; kernel_rfl) ?_)
    | (go_at_call 10; refine (CT.out _ H6.out).mono ?_; rintro e w7 ⟨rfl, hb7⟩; have B7 := Lib.hid (Below.step B6.out hb7); have P7 := Lib.hid (Blk.below P6.out hb7 P6.out.lt); have U7 := Lib.hid (Blk.below U6.out hb7 U6.out.lt); clear hb7 CT))
  clear P6 U6 B6 H6
  go_wp2_with (first
    | (refine wpList_load_rowG (by rfl) 24 (.tmp 1) rfl g4 rfl 24 T (0, 0) _ P7.out Tryd.underlying24 rfl ZT.out ?_)
    | (refine wpList_load_rowG (by rfl) 24 (.tmp 3) rfl g6 rfl 24 U (0, 0) _ U7.out Tryd.underlying24 rfl ZU.out ?_)
    | (go_at_call 16; refine (C1.out _).mono ?_; rintro e w8 ⟨rfl, hb8⟩; have B8 := Lib.hid (Below.step B7.out hb8); have P8 := Lib.hid (Blk.below P7.out hb8 P7.out.lt); have U8 := Lib.hid (Blk.below U7.out hb8 U7.out.lt); clear hb8 C1 B7 P7 U7)
    | (refine wpList_load_rowG (by rfl) 24 (.tmp 1) rfl g4 rfl 24 T (0, 0) _ P8.out Tryd.underlying24 rfl ZT.out ?_)
    | (refine wpList_load_rowG (by rfl) 24 (.tmp 3) rfl g6 rfl 24 U (0, 0) _ U8.out Tryd.underlying24 rfl ZU.out ?_)
    | (go_at_call 16; refine (C2.out _).mono ?_; rintro e w9 ⟨rfl, hb9⟩; have B9 := Lib.hid (Below.step B8.out hb9); clear hb9 C2 P8 U8 B8))
  go_ret
  exact ⟨rfl, B9.out⟩

end Go.Proofs.YtpekpgmdjpcpiaaDoor

namespace Go.Proofs.YtpekpgmdjpcpiaaDoor
open Go.RowKit

def ordZ (a b : Int) : Int := if a < b then -1 else if b < a then 1 else 0

set_option maxHeartbeats 400000 in
theorem order_any (a b : Int) (w : World) :
    Calls Tryd.prog 48 #[.int .i64 a, .int .i64 b] w fun e w' => e = .returned (.int .i64 (ordZ a b)) ∧ w' = w := by
  by_cases h1 : a < b
  · go_enter Tryd.func48, Tryd.ntmps48
    go_wp2
    go_ret
    exact ⟨by simp [ordZ, h1], rfl⟩
  · by_cases h2 : b < a
    · go_enter Tryd.func48, Tryd.ntmps48
      go_wp2
      go_ret
      exact ⟨by simp [ordZ, h1, h2], rfl⟩
    · go_enter Tryd.func48, Tryd.ntmps48
      go_wp2
      go_ret
      rw [ordZ, if_neg (by omega), if_neg (by omega)]
      exact ⟨rfl, rfl⟩

/-- One round's way of 'Cmp', by the bytes there. -/
theorem cmp_step {xs ys : List Int} {k : Nat} (hk1 : k < xs.length) (hk2 : k < ys.length) (he : cmpZ (xs.drop k) (ys.drop k) = cmpZ xs ys) {x y : Int} (hx : x = xs[k]?.getD 0) (hy : y = ys[k]?.getD 0) :
    (¬ x = y → cmpZ xs ys = ordZ x y) ∧ (x = y → cmpZ (xs.drop (k + 1)) (ys.drop (k + 1)) = cmpZ xs ys) := by
  rw [cmpZ_drop hk1 hk2, ← hx, ← hy] at he
  refine ⟨fun hne => ?_, fun e => ?_⟩
  · rw [← he, ordZ]
    by_cases c : x < y
    · rw [if_pos c, if_pos c]
    · rw [if_neg c, if_neg c, if_pos (by omega), if_pos (by omega)]
  · rw [if_neg (by omega), if_neg (by omega)] at he
    exact he

theorem cmp_end {xs ys : List Int} {k : Nat} (h1 : k ≤ xs.length) (h2 : k ≤ ys.length) (h : k = xs.length ∨ k = ys.length) (he : cmpZ (xs.drop k) (ys.drop k) = cmpZ xs ys) :
    cmpZ xs ys = ordZ xs.length ys.length := by
  rw [← he, cmpZ_end h1 h2 h, ordZ]

set_option maxHeartbeats 1000000 in
theorem cmp_any (a b : Option Addr) (n m ca cb : Nat) (xs ys : List Int) (w : World) (hx : Row w a n xs) (hy : Row w b m ys) (hn : n ≤ 1000000) (hm : m ≤ 1000000) :
    Calls Tryd.prog 33 #[.slice a n ca, .slice b m cb] w fun e w' => e = .returned (.int .i64 (cmpZ xs ys)) ∧ ∃ q, w' = w.drewN q := by
  have HX := Lib.hid hx
  have HY := Lib.hid hy
  clear hx hy
  by_cases hle : n ≤ m
  all_goals
    go_enter Tryd.func33, Tryd.ntmps33
    go_wp2
    go_loopw [11] (fun i wr => ∃ k q : Nat, k ≤ n ∧ k ≤ m ∧ i = .int .i64 k ∧ wr = w.drewN q ∧ cmpZ (xs.drop k) (ys.drop k) = cmpZ xs ys) (fun i _ => n - (intOf i).toNat)
    case atStart => exact ⟨0, 0, Nat.zero_le _, Nat.zero_le _, rfl, rfl, rfl⟩
    case round =>
      obtain ⟨k, q, hk1, hk2, rfl, rfl, he⟩ := hrel
      have HE := Lib.hid he
      clear he
      by_cases hlt : k < n ∧ k < m
      · obtain ⟨h1, h2⟩ := hlt
        obtain ⟨b1, o1, rfl, hb1, hc1⟩ := HX.out.2.2 (by omega)
        obtain ⟨b2, o2, rfl, hb2, hc2⟩ := HY.out.2.2 (by omega)
        have c1 := hc1 k h1
        have c2 := hc2 k h2
        clear hc1 hc2
        have bx := HX.out.byte k
        have by_ := HY.out.byte k
        have ST := Lib.hid (cmp_step (by rw [HX.out.1]; exact h1) (by rw [HY.out.1]; exact h2) HE.out rfl rfl)
        generalize xs[k]?.getD 0 = x at c1 bx ST
        generalize ys[k]?.getD 0 = y at c2 by_ ST
        by_cases hxy : x = y
        · subst hxy
          go_wp2
          go_quiet (fail)
          go_wp2
          go_roundw
          case rel => exact ⟨k + 1, _, by omega, by omega, by go_num, rfl, ST.out.2 (by simp)⟩
          case measure => simp [intOf]; omega
        · have hne : (x != y) = true := by simpa using hxy
          go_wp2
          go_quiet (fail)
          go_wp2
          have wx : IntKind.i64.wrap x = x := IntWalk.i64_in _ (by omega)
          have wy : IntKind.i64.wrap y = y := IntWalk.i64_in _ (by omega)
          go_quiet ((go_at_call 48; exact calm_call (fun W => order_any _ _ W)))
          clear wx wy
          go_wp2
          go_ret
          exact ⟨same_int (ST.out.1 hxy).symm, _, by rw [World.drewN_drewN, World.drewN_drewN]⟩
      · first | (have hge : n ≤ k := by omega) | (have hge : m ≤ k := by omega)
        go_wp2_with (go_at_call 48; refine (order_any _ _ _).mono ?_; rintro e w' ⟨rfl, rfl⟩)
        go_ret
        exact ⟨same_int (by rw [cmp_end (by rw [HX.out.1]; exact hk1) (by rw [HY.out.1]; exact hk2) (by rw [HX.out.1, HY.out.1]; omega) HE.out, HX.out.1, HY.out.1]), _, rfl⟩

end Go.Proofs.YtpekpgmdjpcpiaaDoor

namespace Go.Proofs.YtpekpgmdjpcpiaaDoor
open Go.RowKit
set_option linter.unusedVariables false

theorem cmpZ_cmpN : ∀ (xs ys : List Int), xs.length = ys.length → (∀ x ∈ xs, 0 ≤ x ∧ x ≤ 255) → (∀ x ∈ ys, 0 ≤ x ∧ x ≤ 255) → cmpZ xs ys = cmpN (aN xs) (aN ys)
  | [], [], _, _, _ => rfl
  | [], _ :: _, h, _, _ => by simp at h
  | _ :: _, [], h, _, _ => by simp at h
  | x :: xs, y :: ys, h, hx, hy => by
    have h1 : ∀ z ∈ xs, 0 ≤ z ∧ z ≤ 255 := fun z hz => hx z (by simp [hz])
    have h2 : ∀ z ∈ ys, 0 ≤ z ∧ z ≤ 255 := fun z hz => hy z (by simp [hz])
    have hl : xs.length = ys.length := by simpa using h
    have x0 := hx x (by simp)
    have y0 := hy y (by simp)
    have a1 := aN_lt h1
    have a2 := aN_lt h2
    rw [cmpZ]
    rw [← hl] at a2
    have pp : 0 < 256 ^ xs.length := Nat.pow_pos (by decide)
    rw [aN_cons, aN_cons, ← hl]
    unfold cmpN
    split
    · have m : (x.toNat + 1) * 256 ^ xs.length ≤ y.toNat * 256 ^ xs.length := Nat.mul_le_mul_right _ (by omega)
      rw [Nat.add_mul, Nat.one_mul] at m
      rw [if_pos (by omega)]
    · split
      · have m : (y.toNat + 1) * 256 ^ xs.length ≤ x.toNat * 256 ^ xs.length := Nat.mul_le_mul_right _ (by omega)
        rw [Nat.add_mul, Nat.one_mul] at m
        rw [if_neg (by omega), if_pos (by omega)]
      · have e : x = y := by omega
        subst e
        rw [cmpZ_cmpN xs ys hl h1 h2]
        unfold cmpN
        split
        · rw [if_pos (by omega)]
        · split
          · rw [if_neg (by omega), if_pos (by omega)]
          · rw [if_neg (by omega), if_neg (by omega)]
theorem PBlk.rowA {w : World} {g : Nat} {v : Bool} {A : List Int} {L : Int} (h : PBlk w g v A L) (hA : Sixteen A) : Row w (some ⟨g, 1, none⟩) 16 A :=
  ⟨hA.1, hA.2, fun _ => ⟨g, 1, rfl, h.lt, fun i hi => (Blk.cell h (1 + i)).trans (pcells_a hA.1 i hi)⟩⟩

def orZ (a b : Int) : Int := if a = 0 then b else a
theorem or_no {a b : Int} (h : a = 0) : orZ a b = b := if_pos h
theorem or_yes {a b : Int} (h : ¬ a = 0) : orZ a b = a := if_neg h
set_option maxHeartbeats 500000 in
theorem or_any (a b : Int) (g : Nat) (w : World) (ha : w.cell? ⟨g, 0, none⟩ = some (.int .i64 a)) (hb : w.cell? ⟨g, 1, none⟩ = some (.int .i64 b)) :
    Calls Tryd.prog 32 #[.slice (some ⟨g, 0, none⟩) 2 2] w fun e w' => e = .returned (.int .i64 (orZ a b)) ∧ w' = w := by
  have HA := Lib.hid ha
  have HB := Lib.hid hb
  clear ha hb
  go_enter Tryd.func32, Tryd.ntmps32
  go_wp2_with fail
  go_loop [8] (fun i => ∃ k : Nat, i = .int .i64 (k : Int) ∧ k ≤ 2 ∧ (1 ≤ k → a = 0) ∧ (2 ≤ k → b = 0)) (fun i => 5 - (intOf i).toNat)
  case atStart => exact ⟨0, rfl, by omega, by omega, by omega⟩
  case round =>
    obtain ⟨k, rfl, hk, h0, h1⟩ := hrel
    have H0 := Lib.hid h0
    have H1 := Lib.hid h1
    clear h0 h1
    rcases k with _ | _ | k
    · have c0 := HA.out
      by_cases hz : a = 0
      · subst hz
        go_wp2_with fail
        go_round
        case rel => exact ⟨1, rfl, by omega, fun _ => by simp, by omega⟩
        case measure => simp [intOf]
      · have hz' : (a != 0) = true := by simpa using hz
        go_wp2_with fail
        go_ret
        exact ⟨by rw [or_yes hz]; rfl, rfl⟩
    · have c1 := HB.out
      have e0 := Lib.hid (H0.out (by omega))
      by_cases hz : b = 0
      · subst hz
        go_wp2_with fail
        go_round
        case rel => exact ⟨2, rfl, by omega, fun _ => e0.out, fun _ => by simp⟩
        case measure => simp [intOf]
      · have hz' : (b != 0) = true := by simpa using hz
        go_wp2_with fail
        go_ret
        exact ⟨by rw [or_no e0.out]; rfl, rfl⟩
    · obtain rfl : k = 0 := by omega
      have e0 := Lib.hid (H0.out (by omega))
      have e1 := Lib.hid (H1.out (by omega))
      go_wp2_with fail
      go_ret
      exact ⟨by rw [or_no e0.out, e1.out]; rfl, rfl⟩

theorem cmp_or {v : Bool} {A : List Int} {L : Int} {B : List Int} {M : Int} : orZ (cmpN (aN A) (aN B)) (Lib.compareInt L M) = cmpA v A L v B M := by
  obtain ⟨_, h⟩ := cmp_way v A L v B M
  obtain ⟨h1, h2⟩ := h rfl
  unfold orZ
  split
  · rename_i e
    obtain ⟨h3, h4, h5⟩ := h2 e
    unfold Lib.compareInt
    split
    · exact (h3 (by assumption)).symm
    · split
      · exact (h4 (by assumption) (by omega)).symm
      · exact (h5 (by assumption) (by omega)).symm
  · exact (h1 (by assumption)).symm

set_option maxHeartbeats 1000000 in
set_option maxRecDepth 10000 in
theorem pcmp_any (v : Bool) (A : List Int) (L : Int) (u : Bool) (B : List Int) (M : Int) (w : World) (hA : Sixteen A) (hB : Sixteen B) :
    Calls Tryd.prog 18 #[.agg (pcells v A L), .agg (pcells u B M)] w fun e w' => e = .returned (.int .i64 (cmpA v A L u B M)) ∧ Below w.heap.size w w' := by
  obtain ⟨bx, by', bw⟩ := two_boxes w v A L u B M
  have BX := Lib.hid bx
  have BY := Lib.hid by'
  have BW := Lib.hid bw
  have HA := Lib.hid hA
  have HB := Lib.hid hB
  have hA16 := hA.1
  have hB16 := hB.1
  have CW := Lib.hid (cmp_way v A L u B M).1
  have CO : v = u → Hid (orZ (cmpN (aN A) (aN B)) (Lib.compareInt L M) = cmpA v A L u B M) := fun e => Lib.hid (by subst e; exact cmp_or)
  have CN := Lib.hid (cmpZ_cmpN A B (by rw [hA16, hB16]) hA.2 hB.2)
  clear bx by' bw hA hB
  have cv := BX.out.v
  have cl := BX.out.l hA16
  have du := BY.out.v
  have dl := BY.out.l hB16
  go_enter Tryd.func18, Tryd.ntmps18
  generalize hw2 : (w.alloc (.cells (pcells v A L) 24)).alloc (.cells (pcells u B M) 24) = w2 at *
  by_cases h : v = u
  · have CP : Hid (∀ W, Ext w2.drew W → Calls Tryd.prog 33 #[.slice (some ⟨w.heap.size, 1, none⟩) 16 16, .slice (some ⟨w.heap.size + 1, 1, none⟩) 16 16] W fun e w' => e = .returned (.int .i64 (cmpZ A B)) ∧ Below W.heap.size W w') := Lib.hid (fun W hW =>
      (cmp_any (some ⟨w.heap.size, 1, none⟩) (some ⟨w.heap.size + 1, 1, none⟩) 16 16 16 16 A B W (PBlk.rowA (BX.out.later hW) HA.out) (PBlk.rowA (BY.out.later hW) HB.out) (by omega) (by omega)).mono (fun e w' ⟨he, q, hq⟩ => ⟨he, by rw [hq]; exact drewN_below W q⟩))
    rw [CN.out] at CP
    have CF := CO h
    have cl' := cell_later cl
    have dl' := cell_later dl
    have CQ := Lib.hid (fun W => Tryd.cmp_Compare_int L M W)
    generalize cmpN (aN A) (aN B) = c at *
    generalize Lib.compareInt L M = d at *
    subst h
    clear CW CO CN
    cases v
    all_goals
      go_wp2_with fail
      clear hw2
      refine wp_region_ord Ext Ext.refl (fun _ _ _ => Ext.trans) ((0, false) :: (1, false) :: (2, false) :: (3, false) :: (5, false) :: (6, false) :: (7, false) :: (8, false) :: (4, true) :: (9, true) :: (10, true) :: (11, true) :: (12, false) :: []) (by kernel_rfl) (by kernel_rfl) rfl (by kernel_rfl) (fun _ _ _ _ _ h => h) ?_
      repeat (refine ord_take _ rfl (by rfl) (fun W hW => by go_simp; first | done | rfl) ?_; simp only [Act.put, List.setIfInBounds_toArray, List.set_cons_zero, List.set_cons_succ])
      refine ord_sole rfl (by rfl) (fun K1 hK1 => ?_)
      go_simp
      refine (CP.out _ (Ext.refl _)).mono ?_
      rintro r w3 ⟨rfl, hb3⟩
      refine hK1 _ _ hb3 ?_
      have B3 := Lib.hid (Below.step (Below.step BW.out (drewN_below w2 1)) hb3)
      clear hK1 K1 CP hb3
      refine ord_sole rfl (by rfl) (fun K1 hK1 => ?_)
      go_simp
      refine (CQ.out _).mono ?_
      rintro r w4 ⟨rfl, rfl⟩
      refine hK1 _ _ (Ext.refl _) ?_
      clear hK1 K1 CQ
      refine ord_sole rfl (by rfl) (fun K1 hK1 => ?_)
      go_simp
      refine hK1 _ _ (box_below w4 _) ?_
      clear hK1 K1
      have k4 := Blk.new w4 3 #[Value.int .i64 c, Value.int .i64 d]
      have B4 := Lib.hid (Below.step B3.out (box_below w4 (.cells #[Value.int .i64 c, Value.int .i64 d] 3)))
      have e0 := Blk.cell k4 0
      have e1 := Blk.cell k4 1
      have CO := Lib.hid (or_any c d w4.heap.size _ e0 e1)
      clear k4 e0 e1
      generalize w4.alloc (.cells #[Value.int .i64 c, Value.int .i64 d] 3) = w5 at *
      generalize w4.heap.size = g4 at *
      refine ord_sole rfl (by rfl) (fun K1 hK1 => ?_)
      go_simp
      refine CO.out.mono ?_
      rintro r w6 ⟨rfl, rfl⟩
      refine hK1 _ _ (Ext.refl _) ?_
      clear hK1 K1 CO
      rw [CF.out]
      repeat (refine ord_take _ rfl (by rfl) (fun W hW => by go_simp; first | done | rfl) ?_; simp only [Act.put, List.setIfInBounds_toArray, List.set_cons_zero, List.set_cons_succ])
      refine ord_end ?_
      go_wp2_with fail
      go_ret
      exact ⟨rfl, B4.out⟩
  · have F := Lib.hid (CW.out h)
    cases v <;> cases u
    · exact absurd rfl h
    · go_wp2_with fail
      go_ret
      exact ⟨by rw [F.out]; rfl, BW.out⟩
    · go_wp2_with fail
      go_ret
      exact ⟨by rw [F.out]; rfl, BW.out⟩
    · exact absurd rfl h

end Go.Proofs.YtpekpgmdjpcpiaaDoor
