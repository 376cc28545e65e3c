/-
  What Write answers, for stage 6 (sha).
-/
import Derived.Test.YtgldoppcillljaaDoorShaL
import Derived.Maps.AppendAt
namespace Go.Proofs.YtgldoppcillljaaDoor
open Go.RowKit
set_option linter.unusedVariables false

/-- Where Write's loop stands: j blocks of T are done. -/
def InLoop (w wr : World) (g : Nat) (T : List Int) (j : Nat) : Prop :=
  ∃ rs : List Int, rs.length = 64 ∧ (∀ x ∈ rs, 0 ≤ x ∧ x ≤ 255) ∧ HBlk wr g (runV j H0 T) (T.length : Int) rs ∧ w.grownBy wr (some g) ∧ Tab wr
/-- A row of bytes that lies in another block than g. -/
def Apart (w : World) (g : Nat) (a : Option Addr) (n : Nat) (zs : List Int) : Prop := Row w a n zs ∧ (0 < n → ∃ b off, a = some ⟨b, off, none⟩ ∧ b ≠ g)
theorem Apart.grown {w w' : World} {g : Nat} {a : Option Addr} {n : Nat} {zs : List Int} (h : Apart w g a n zs) (hg : w.grownBy w' (some g)) : Apart w' g a n zs := ⟨h.1.grown hg h.2, h.2⟩
theorem Apart.first {w : World} {g : Nat} {a : Option Addr} {n : Nat} {zs : List Int} (h : Apart w g a n zs) (k : Nat) (hk : k ≤ n) : Apart w g a k (zs.take k) := ⟨h.1.first k hk, fun h0 => h.2 (by omega)⟩
theorem Apart.rest {w : World} {g : Nat} {a : Option Addr} {n : Nat} {zs : List Int} (h : Apart w g a n zs) (k c : Nat) (hk : k ≤ n) (hc : n ≤ c) : Apart w g (if c = k then a else a.map (·.add k)) (n - k) (zs.drop k) := by
  refine ⟨h.1.rest k c hk hc, fun h0 => ?_⟩
  obtain ⟨b, off, rfl, hne⟩ := h.2 (by omega)
  rw [if_neg (by omega)]
  exact ⟨b, off + k, by rw [Option.map_some, Addr.add_lit], hne⟩

def Wrote (w : World) (g : Nat) (T : List Int) (e : Ending) (w' : World) : Prop := e = .returned (.tuple #[]) ∧ Holds w' g T ∧ w.grownBy w' (some g)

theorem hblk_many {w : World} {g : Nat} {s : V8} {m : Int} {rs : List Int} (h : HBlk w g s m rs) (m' : Int) : HBlk (w.setCell ⟨g, 8, none⟩ (.int .u64 m')) g s m' rs := by
  have := Blk.set h 8 (.int .u64 m')
  rw [hcells_setMany] at this
  exact this
theorem byte_mem {rs zs : List Int} {i k l : Nat} (h1 : ∀ x ∈ rs, 0 ≤ x ∧ x ≤ 255) (h2 : ∀ x ∈ zs, 0 ≤ x ∧ x ≤ 255) : ∀ x ∈ rs.take i ++ zs ++ rs.drop l, 0 ≤ x ∧ x ≤ 255 := by
  intro x hx
  rcases List.mem_append.1 hx with hx | hx
  · rcases List.mem_append.1 hx with hx | hx
    · exact h1 x (List.mem_of_mem_take hx)
    · exact h2 x hx
  · exact h1 x (List.mem_of_mem_drop hx)

set_option maxHeartbeats 1000000 in
set_option maxRecDepth 100000 in
theorem write_any (g : Nat) (L : List Int) (a : Option Addr) (n ca : Nat) (zs : List Int) (w : World) (hh : Holds w g L) (hg2 : 2 ≤ g) (hr : Apart w g a n zs) (hca : n ≤ ca) (ht : Tab w) (hl : L.length + n ≤ 1000000) :
    Calls Tryd.prog 13 #[.pointer (some ⟨g, 0, none⟩), .slice a n ca] w (Wrote w g (L ++ zs)) := by
  obtain ⟨rs, h64, hrb, hrt, hblk⟩ := hh
  have hzn := hr.1.1
  have HR := Lib.hid hr
  have HB := Lib.hid hblk
  have HB1 := Lib.hid (hblk_many hblk ((L.length : Int) + n))
  have HRT := Lib.hid hrt
  have HRB := Lib.hid hrb
  have TA := Lib.hid ht
  have c8 := (Blk.cell hblk 8).trans (hcells_many _ _ _)
  have f8 := Blk.free hblk 8
  have G1 := Lib.hid (grown_set w g 8 (.int .u64 ((L.length : Int) + n)))
  have TL : (L ++ zs).length = L.length + n := by rw [List.length_append, hzn]
  have RS := Lib.hid (fun h => rest_short (L := L) (zs := zs) h64 hrt h)
  have RF := Lib.hid (fun h => rest_full (L := L) (zs := zs) h64 hrt h)
  have PE := Lib.hid (fun (h : L.length % 64 = 0) => (runV_pre (L.length / 64) H0 L zs (by omega)))
  have PD := Lib.hid (fun (h : L.length % 64 = 0) => (show (L ++ zs).drop (64 * (L.length / 64)) = zs from by rw [show 64 * (L.length / 64) = L.length by omega, List.drop_left]))
  have LD := Lib.hid (show 64 * (L.length / 64) + L.length % 64 = L.length from by omega)
  have h64' : L.length % 64 < 64 := by omega
  generalize hhe : L.length % 64 = h at *
  generalize hqe : L.length / 64 = q at *
  have HH := Lib.hid hhe
  have HQ := Lib.hid hqe
  have e1 : ((L.length : Int)).tmod 64 = (h : Int) := by
    rw [Int.tmod_eq_emod_of_nonneg (by omega)]
    omega
  have k1 : IntKind.i64.wrap (h : Int) = (h : Int) := IntWalk.i64_in _ (by omega)
  have k2 : IntKind.u64.wrap (n : Int) = (n : Int) := IntWalk.u64_in _ (by omega)
  have k3 : IntKind.u64.wrap ((L.length : Int) + (n : Int)) = (L.length : Int) + (n : Int) := IntWalk.u64_in _ (by omega)
  have hi64 : (h : Int) ≤ 64 := by omega
  have hne : ¬ 64 = h := by omega
  generalize hT : L ++ zs = T at *
  have HT := Lib.hid hT
  clear hblk hrt ht hr hrb hhe hqe hT
  by_cases h0 : h = 0
  case' pos =>
    subst h0
    have IL : Hid (InLoop w (w.setCell ⟨g, 8, none⟩ (.int .u64 ((L.length : Int) + n))) g T q) := by
      refine Lib.hid ⟨rs, h64, HRB.out, ?_, G1.out, TA.out.grown G1.out hg2⟩
      rw [PE.out rfl, TL, Int.natCast_add]
      exact HB1.out
    have AP := HR.out.grown G1.out
    have HAP : Hid (Apart (w.setCell ⟨g, 8, none⟩ (.int .u64 ((L.length : Int) + n))) g a n (T.drop (64 * q))) := by
      rw [PD.out rfl]
      exact Lib.hid AP
    have JN : 64 * q + n = T.length := by have := LD.out; omega
    have NC : n ≤ ca := hca
    clear AP HB1 HB PE PD RS RF HR
    go_enter Tryd.func13, Tryd.ntmps13
    go_wp2_with fail
    generalize w.setCell ⟨g, 8, none⟩ (.int .u64 ((L.length : Int) + n)) = w4 at *
  case' neg => 
    have t0 : decide ((0 : Int) < (h : Int)) = true := by simp; omega
    have hb1 := hcells_size (runV q H0 L) ((L.length : Int) + n) rs h64
    by_cases hs : h + n < 64
    case pos =>
      have t1 : decide ((h : Int) + (n : Int) < 64) = true := by simp; omega
      have k4 : IntKind.i64.wrap ((h : Int) + (n : Int)) = (h : Int) + (n : Int) := IntWalk.i64_in _ (by omega)
      have CS : Hid (0 < zs.length → ∃ ad, a = some ad ∧ ∀ j v, (zs.map (Value.int .u8))[j]? = some v → (w.setCell ⟨g, 8, none⟩ (.int .u64 ((L.length : Int) + n))).cell? (ad.add j) = some v) := Lib.hid (fun hz => by
        obtain ⟨b, off, e, _⟩ := HR.out.2 (by omega)
        subst e
        exact ⟨_, rfl, (HR.out.grown G1.out).1.cells⟩)
      obtain ⟨s1, s2, s3, s4⟩ := RS.out (by omega)
      have S1 := Lib.hid s1
      have S3 := Lib.hid s3
      have S4 := Lib.hid s4
      have SR := Lib.hid (hcells_setRest (runV q H0 L) ((L.length : Int) + n) rs zs h (by omega))
      have MN : Hid (zs.length = Nat.min n (64 - h)) := Lib.hid (by rw [hzn]; exact (Nat.min_eq_left (by omega)).symm)
      have BM := Lib.hid (byte_mem (i := h) (k := 0) (l := h + zs.length) HRB.out HR.out.1.2.1)
      have PE1 := Lib.hid (fun (hh : 64 * q ≤ L.length) => (runV_pre q H0 L zs hh).trans (by rfl))
      rw [HT.out] at PE1
      clear s1 s2 s3 s4 RS RF PE PD HB
      go_enter Tryd.func13, Tryd.ntmps13
      go_wp2_with (refine copy_part rfl _ _ rfl g (9 + h) (64 - h) (64 - h) a n ca rfl rfl (hcells (runV q H0 L) ((L.length : Int) + n) rs) 45 HB1.out zs MN.out CS.out (by omega) ?_; intro w2 hb2 hg2'; have HB2 := Lib.hid hb2; have G2 := Lib.hid (World.grownBy.trans G1.out hg2'); clear hb2 hg2'; rw [hzn])
      go_end0
      refine ⟨rfl, ⟨_, S4.out, BM.out, S3.out, ?_⟩, G2.out⟩
      rw [S1.out, PE1.out (by have := LD.out; omega), TL, Int.natCast_add]
      have e := HB2.out
      rw [SR.out] at e
      exact e
    case' neg =>
      have t1 : decide ((h : Int) + ((64 - h : Nat) : Int) < 64) = false := by simp; omega
      have k4 : IntKind.i64.wrap ((h : Int) + ((64 - h : Nat) : Int)) = 64 := by rw [show (h : Int) + ((64 - h : Nat) : Int) = 64 by omega]; exact IntWalk.i64_in _ (by omega)
      obtain ⟨bb, off, rfl, hbne⟩ := HR.out.2 (by omega)
      obtain ⟨s1, s2, s3, s4⟩ := RF.out (by omega)
      have SR := hcells_setRest (runV q H0 L) ((L.length : Int) + n) rs (zs.take (64 - h)) h (by rw [List.length_take]; omega)
      have BM := Lib.hid (byte_mem (i := h) (k := 0) (l := h + (zs.take (64 - h)).length) HRB.out (fun x hx => HR.out.1.2.1 x (List.mem_of_mem_take (i := 64 - h) hx)))
      have MN : (zs.take (64 - h)).length = 64 - h := by rw [List.length_take]; omega
      have CS : Hid (0 < (zs.take (64 - h)).length → ∃ ad, (some ⟨bb, off, none⟩ : Option Addr) = some ad ∧ ∀ j v, ((zs.take (64 - h)).map (Value.int .u8))[j]? = some v → (w.setCell ⟨g, 8, none⟩ (.int .u64 ((L.length : Int) + n))).cell? (ad.add j) = some v) := Lib.hid (fun hz => by
        exact ⟨_, rfl, ((HR.out.grown G1.out).1.first (64 - h) (by omega)).cells⟩)
      generalize hc1 : zs.take (64 - h) = c1 at *
      generalize hR : rs.take h ++ c1 ++ rs.drop (h + c1.length) = R at *
      have S2 := Lib.hid s2
      have S3 := Lib.hid s3
      have S4 := Lib.hid s4
      have SRR := Lib.hid SR
      have MM : Hid (c1.length = Nat.min n (64 - h)) := Lib.hid (by rw [MN]; exact (Nat.min_eq_right (by omega)).symm)
      have HMN := Lib.hid MN
      have OK := Lib.hid (ok_run q L ok_H0)
      clear s1 s2 s3 s4 RS RF PE PD HB SR hc1 hR
      have hc1l : h + c1.length = 64 := by omega
      go_enter Tryd.func13, Tryd.ntmps13
      go_wp2_with (refine copy_part rfl _ _ rfl g (9 + h) (64 - h) (64 - h) (some ⟨bb, off, none⟩) n ca rfl rfl (hcells (runV q H0 L) ((L.length : Int) + n) rs) 45 HB1.out c1 MM.out CS.out (by omega) ?_; intro w2 hb2 hg2'; have HB2 := Lib.hid hb2; have G2 := Lib.hid (World.grownBy.trans G1.out hg2'); clear hb2 hg2'; rw [HMN.out])
      have HB3 : Hid (HBlk w2 g (runV q H0 L) ((L.length : Int) + n) R) := by
        have e := HB2.out
        rw [SRR.out] at e
        exact Lib.hid e
      clear HB2 HB1 SRR
      generalize runV q H0 L = s at *
      refine wp_region_ord (fun _ _ => True) (fun _ => trivial) (fun _ _ _ _ _ => trivial) ((0, false) :: (1, false) :: (2, false) :: (3, false) :: (5, false) :: (6, false) :: (7, false) :: (8, false) :: (4, true) :: (9, true) :: (10, false) :: (11, false) :: (12, true) :: []) (by kernel_rfl) (by kernel_rfl) rfl (by kernel_rfl) (fun _ _ _ _ _ h => h) ?_
      repeat (refine ord_take _ rfl (by rfl) (fun W hW => by go_simp; first | done | rfl) ?_; simp only [Act.put, List.setIfInBounds_toArray, List.set_cons_zero, List.set_cons_succ])
      refine ord_sole rfl (by rfl) (fun K1 hK1 => ?_)
      refine wp_load_mid 41 (.tmp 38) rfl g 0 rfl s.cells.toList (.array 8 37) (show HBlk w2.drew g s ((L.length : Int) + n) R from HB3.out).range Tryd.underlying41 rfl (Tryd.size41 s) ?_
      refine hK1 _ _ trivial ?_
      clear hK1 K1
      simp only [Act.put, List.setIfInBounds_toArray, List.set_cons_zero, List.set_cons_succ]
      refine ord_sole rfl (by rfl) (fun K1 hK1 => ?_)
      go_simp
      have R2 : Hid (Row w2.drew (some ⟨g, 9, none⟩) 64 R) := Lib.hid ((show HBlk w2.drew g s ((L.length : Int) + n) R from HB3.out).row S4.out BM.out)
      have T2 : Hid (Tab w2.drew) := Lib.hid (show Tab w2 from TA.out.grown G2.out hg2)
      have WM : Hid (w.grownBy w2.drew (some g)) := Lib.hid (show w.grownBy w2.drew (some g) from { G2.out with })
      refine (after_any s OK.out (some ⟨g, 9, none⟩) 64 R w2.drew R2.out (Nat.le_refl _) T2.out).mono ?_
      rintro e w3 ⟨rfl, hb3⟩
      have HB4 : Hid (HBlk w3 g s ((L.length : Int) + n) R) := Lib.hid (Blk.below (show HBlk w2.drew g s ((L.length : Int) + n) R from HB3.out) hb3 (Blk.lt (show HBlk w2.drew g s ((L.length : Int) + n) R from HB3.out)))
      have G3 : Hid (w.grownBy w3 (some g)) := Lib.hid (grown_below WM.out hb3)
      refine hK1 _ _ trivial ?_
      clear hK1 K1 hb3 R2 T2 WM G2 HB3
      repeat (refine ord_take _ rfl (by rfl) (fun W hW => by go_simp; first | done | rfl) ?_; simp only [Act.put, List.setIfInBounds_toArray, List.set_cons_zero, List.set_cons_succ])
      refine ord_sole rfl (by rfl) (fun K1 hK1 => ?_)
      refine wp_store_part 41 (.tmp 46) (.tmp 44) rfl rfl g 0 (blockV s R).cells rfl rfl 45 (hcells s ((L.length : Int) + n) R) HB4.out (by rw [hcells_size _ _ _ S4.out]; show 0 + 8 ≤ 73; omega) (Tryd.size41 _) (cells_one _) ?_
      refine hK1 _ _ trivial ?_
      clear hK1 K1
      refine ord_end ?_
      have IL : Hid (InLoop w (w3.setRow g ((hcells s ((L.length : Int) + n) R).toList.take 0 ++ (blockV s R).cells.toList ++ (hcells s ((L.length : Int) + n) R).toList.drop (0 + (blockV s R).cells.toList.length)).toArray) g T (q + 1)) := by
        rw [hcells_setWords]
        have g4 := World.grownBy.trans G3.out (grown_setRow w3 g (hcells (blockV s R) ((L.length : Int) + n) R))
        refine Lib.hid ⟨R, S4.out, BM.out, ?_, g4, TA.out.grown g4 hg2⟩
        rw [S2.out, TL, Int.natCast_add]
        exact setRow_heap _ _ _ _ _ _ HB4.out
      generalize (w3.setRow g ((hcells s ((L.length : Int) + n) R).toList.take 0 ++ (blockV s R).cells.toList ++ (hcells s ((L.length : Int) + n) R).toList.drop (0 + (blockV s R).cells.toList.length)).toArray) = w4 at *
      have g4 := IL.out
      obtain ⟨_, _, _, _, g4, _⟩ := g4
      have AP := (HR.out.grown g4).rest (64 - h) ca (by omega) hca
      rw [S3.out] at AP
      obtain ⟨A1, hA1⟩ : ∃ A1 : Option Addr, (if ca = 64 - h then some (⟨bb, off, none⟩ : Addr) else some ⟨bb, off + (64 - h), none⟩) = A1 := ⟨_, rfl⟩
      rw [Option.map_some, Addr.add_lit, hA1] at AP
      have HAP := Lib.hid AP
      clear AP g4 G3 HB4 HR
      have kl : (((64 - h : Nat)) : Int) ≤ (n : Int) := by omega
      have kc : (((64 - h : Nat)) : Int) ≤ (ca : Int) := by omega
      have kn : (0 : Int) ≤ ((64 - h : Nat) : Int) := by omega
      have JN : 64 * (q + 1) + (n - (64 - h)) = T.length := by have := LD.out; omega
      have NC : n - (64 - h) ≤ ca - (64 - h) := by omega
      go_wp2_with fail

  all_goals
    go_loopw [1] (fun b wr => ∃ (j : Nat) (A : Option Addr) (m c : Nat), b = .slice A m c ∧ m ≤ c ∧ 64 * j + m = T.length ∧ InLoop w wr g T j ∧ Apart wr g A m (T.drop (64 * j))) (fun b _ => lenS b)
    case atStart => exact ⟨_, _, _, _, rfl, NC, JN, IL.out, HAP.out⟩
    case round =>
      obtain ⟨j, A, m, c, rfl, hmc, hjm, hil, hap⟩ := hrel
      obtain ⟨ss, l64, ssb, hblk, hgr, htab⟩ := hil
      have HB := Lib.hid hblk
      have SSB := Lib.hid ssb
      have GR := Lib.hid hgr
      have TB := Lib.hid htab
      have AP := Lib.hid hap
      have OK := Lib.hid (ok_run j T ok_H0)
      clear hblk ssb hgr htab hap
      by_cases hm : 64 ≤ m
      · obtain ⟨bb, off, rfl, hbn⟩ := AP.out.2 (by omega)
        have t0 : decide ((64 : Int) ≤ (m : Int)) = true := by simp; omega
        have km : (64 : Int) ≤ (m : Int) := by omega
        have kc : (64 : Int) ≤ (c : Int) := by omega
        have RL := Lib.hid (runV_last j H0 T)
        have DN := Lib.hid (drop_next T j)
        generalize hs1 : runV (j + 1) H0 T = s1 at *
        have RS1 := Lib.hid hs1
        clear hs1
        have kc' : 64 ≤ c := by omega
        generalize runV j H0 T = s at *
        generalize T.drop (64 * j) = D at *
        go_wp2_with fail
        refine wp_region_ord (fun _ _ => True) (fun _ => trivial) (fun _ _ _ _ _ => trivial) ((0, false) :: (1, false) :: (2, false) :: (3, false) :: (5, false) :: (6, false) :: (4, true) :: (7, true) :: (8, false) :: (9, false) :: (10, true) :: []) (by kernel_rfl) (by kernel_rfl) rfl (by kernel_rfl) (fun _ _ _ _ _ h => h) ?_
        repeat (refine ord_take _ rfl (by rfl) (fun W hW => by go_simp; first | done | rfl) ?_; simp only [Act.put, List.setIfInBounds_toArray, List.set_cons_zero, List.set_cons_succ])
        refine ord_sole rfl (by rfl) (fun K1 hK1 => ?_)
        refine wp_load_mid 41 (.tmp 56) rfl g 0 rfl s.cells.toList (.array 8 37) (show HBlk wr.drew g s (T.length : Int) ss from HB.out).range Tryd.underlying41 rfl (Tryd.size41 s) ?_
        refine hK1 _ _ trivial ?_
        clear hK1 K1
        simp only [Act.put, List.setIfInBounds_toArray, List.set_cons_zero, List.set_cons_succ]
        have R2 : Hid (Row wr.drew (some ⟨bb, off, none⟩) 64 (D.take 64)) := Lib.hid ((AP.out.first 64 hm).1.drewN 1)
        have T2 : Hid (Tab wr.drew) := Lib.hid (show Tab wr.drew from TB.out)
        have WM : Hid (w.grownBy wr.drew (some g)) := Lib.hid (show w.grownBy wr.drew (some g) from { GR.out with })
        have WD : Hid (wr.grownBy wr.drew (some g)) := Lib.hid (show wr.grownBy wr.drew (some g) from { World.grownBy.refl wr (some g) with })
        refine ord_sole rfl (by rfl) (fun K1 hK1 => ?_)
        go_simp
        refine (after_any s OK.out (some ⟨bb, off, none⟩) c (D.take 64) wr.drew R2.out kc' T2.out).mono ?_
        rintro e w3 ⟨rfl, hb3⟩
        have HB4 : Hid (HBlk w3 g s (T.length : Int) ss) := Lib.hid (Blk.below (show HBlk wr.drew g s (T.length : Int) ss from HB.out) hb3 (Blk.lt (show HBlk wr.drew g s (T.length : Int) ss from HB.out)))
        have G3 : Hid (w.grownBy w3 (some g)) := Lib.hid (grown_below WM.out hb3)
        have D3 : Hid (wr.grownBy w3 (some g)) := Lib.hid (grown_below WD.out hb3)
        refine hK1 _ _ trivial ?_
        clear hK1 K1 hb3 R2 T2 WM WD HB
        repeat (refine ord_take _ rfl (by rfl) (fun W hW => by go_simp; first | done | rfl) ?_; simp only [Act.put, List.setIfInBounds_toArray, List.set_cons_zero, List.set_cons_succ])
        refine ord_sole rfl (by rfl) (fun K1 hK1 => ?_)
        refine wp_store_part 41 (.tmp 62) (.tmp 60) rfl rfl g 0 (blockV s (D.take 64)).cells rfl rfl 45 (hcells s (T.length : Int) ss) HB4.out (by rw [hcells_size _ _ _ l64]; show 0 + 8 ≤ 73; omega) (Tryd.size41 _) (cells_one _) ?_
        refine hK1 _ _ trivial ?_
        clear hK1 K1
        refine ord_end ?_
        have IL2 : Hid (InLoop w (w3.setRow g ((hcells s (T.length : Int) ss).toList.take 0 ++ (blockV s (D.take 64)).cells.toList ++ (hcells s (T.length : Int) ss).toList.drop (0 + (blockV s (D.take 64)).cells.toList.length)).toArray) g T (j + 1) ∧ wr.grownBy (w3.setRow g ((hcells s (T.length : Int) ss).toList.take 0 ++ (blockV s (D.take 64)).cells.toList ++ (hcells s (T.length : Int) ss).toList.drop (0 + (blockV s (D.take 64)).cells.toList.length)).toArray) (some g)) := by
          rw [hcells_setWords]
          have g4 := World.grownBy.trans G3.out (grown_setRow w3 g (hcells (blockV s (D.take 64)) (T.length : Int) ss))
          refine Lib.hid ⟨⟨ss, l64, SSB.out, ?_, g4, TA.out.grown g4 hg2⟩, World.grownBy.trans D3.out (grown_setRow w3 g _)⟩
          rw [RS1.out, RL.out]
          exact setRow_heap _ _ _ _ _ _ HB4.out
        generalize (w3.setRow g ((hcells s (T.length : Int) ss).toList.take 0 ++ (blockV s (D.take 64)).cells.toList ++ (hcells s (T.length : Int) ss).toList.drop (0 + (blockV s (D.take 64)).cells.toList.length)).toArray) = w5 at *
        have AP2 := (AP.out.grown IL2.out.2).rest 64 c hm hmc
        rw [DN.out] at AP2
        obtain ⟨A1, hA1⟩ : ∃ A1 : Option Addr, (if c = 64 then some (⟨bb, off, none⟩ : Addr) else some ⟨bb, off + 64, none⟩) = A1 := ⟨_, rfl⟩
        rw [Option.map_some, Addr.add_lit, hA1] at AP2
        have HAP2 := Lib.hid AP2
        clear AP2 G3 D3 HB4 AP SSB GR TB RL DN
        go_wp2_with fail
        go_roundw
        case rel => exact ⟨j + 1, _, _, _, rfl, by omega, by omega, IL2.out.1, HAP2.out⟩
        case measure => simp only [lenS]; omega
      · have t0 : decide ((64 : Int) ≤ (m : Int)) = false := by simp; omega
        obtain ⟨s1, s2, s3, s4⟩ := rest_end (T := T) (rs := ss) l64 hjm (by omega)
        have S1 := Lib.hid s1
        have S3 := Lib.hid s3
        have S4 := Lib.hid s4
        have AL := AP.out.1.1
        have SRR := Lib.hid (hcells_setRest (runV j H0 T) (T.length : Int) ss (T.drop (64 * j)) 0 (by omega))
        have BM := Lib.hid (byte_mem (i := 0) (k := 0) (l := 0 + (T.drop (64 * j)).length) SSB.out AP.out.1.2.1)
        have MM : Hid ((T.drop (64 * j)).length = Nat.min m 64) := Lib.hid (by rw [AL]; exact (Nat.min_eq_left (by omega)).symm)
        have HAL := Lib.hid AL
        have CS2 : Hid (0 < (T.drop (64 * j)).length → ∃ ad, A = some ad ∧ ∀ i v, ((T.drop (64 * j)).map (Value.int .u8))[i]? = some v → wr.cell? (ad.add i) = some v) := Lib.hid (fun hz => by
          obtain ⟨b, off, e, _⟩ := AP.out.2 (by omega)
          have ap := AP.out
          subst e
          exact ⟨_, rfl, ap.1.cells⟩)
        have hsz := hcells_size (runV j H0 T) (T.length : Int) ss l64
        clear s1 s2 s3 s4
        generalize hD : T.drop (64 * j) = D at *
        clear hD
        generalize hs1 : runV j H0 T = s at *
        have HS1 := Lib.hid hs1
        clear hs1
        go_wp2_with (refine copy_part rfl _ _ rfl g (9 + 0) 64 64 A m c rfl rfl (hcells s (T.length : Int) ss) 45 HB.out D MM.out CS2.out (by omega) ?_; intro w6 hb6 hg6; have HB6 := Lib.hid hb6; have G6 := Lib.hid (World.grownBy.trans GR.out hg6); clear hb6 hg6; rw [HAL.out])
        go_end0
        refine ⟨rfl, ⟨_, S4.out, BM.out, S3.out, ?_⟩, G6.out⟩
        rw [S1.out, HS1.out]
        have e := HB6.out
        rw [SRR.out] at e
        exact e

end Go.Proofs.YtgldoppcillljaaDoor
