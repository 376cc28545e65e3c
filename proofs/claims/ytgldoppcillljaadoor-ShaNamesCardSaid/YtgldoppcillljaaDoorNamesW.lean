/-
  The walk of stage 6's fourth law (sha): a name is the digits of the hash's first 20 bytes.
-/
import Derived.Test.YtgldoppcillljaaDoorShaAw
import Derived.Test.YtgldoppcillljaaDoorBackC
namespace Go.Proofs.YtgldoppcillljaaDoor
open Go.RowKit
set_option linter.unusedVariables false

theorem str_size (xs : List Int) : (strOfNums xs).size = xs.length := by
  show (strOfNums xs).data.size = _
  rw [← Array.length_toList, strOfNums_data, List.length_map]

set_option maxHeartbeats 1000000 in
set_option maxRecDepth 100000 in
theorem names_walk (a : Option Addr) (n ca : Nat) (zs : List Int) (w : World) (hr : Row w a n zs) (hca : n ≤ ca) (ht : Tab w) :
    Calls Tryd.prog 6 #[.slice a n ca] w fun e w' => e = .returned (.bool true) ∧ Below w.heap.size w w' := by
  have AW := Lib.hid (awake_any w ht)
  have HR := Lib.hid hr
  have TA := Lib.hid ht
  clear hr ht
  go_enter Tryd.func6, Tryd.ntmps6
  go_wp2_with fail
  refine AW.out.mono ?_
  rintro e w1 ⟨rfl, hb1⟩
  have B1 := Lib.hid hb1
  clear hb1 AW
  by_cases h2 : 2000 < n
  · have t0 : decide ((2000 : Int) < (n : Int)) = true := by simp; omega
    go_wp2_with fail
    go_ret
    exact ⟨rfl, B1.out⟩
  have t0 : decide ((2000 : Int) < (n : Int)) = false := by simp; omega
  have C1 := Lib.hid (of_any a n ca zs w1 (HR.out.below B1.out) hca (by omega) (TA.out.below B1.out))
  have C3 := Lib.hid (fun W (hb : Below w.heap.size w W) => name_any a n ca zs W (HR.out.below hb) hca (by omega) (TA.out.below hb))
  have HL := hash_len zs
  have HB := Lib.hid (hash_byte zs)
  generalize hashZ zs = hz at *
  have L32 : hz.length ≤ 32 := by omega
  go_wp2_with fail
  refine C1.out.mono ?_
  rintro e w2 ⟨rfl, hb2⟩
  have B2 := Lib.hid (Below.step B1.out hb2)
  have S2 := Lib.hid (Blk.new w2 24 Z32)
  have B3 := Lib.hid (below_setRow (B2.out.alloc B2.out.size (.cells Z32 24)) B2.out.size (bcells hz))
  have K3 : Hid (Blk ((w2.alloc (.cells Z32 24)).setRow w2.heap.size (bcells hz)) w2.heap.size 24 (bcells hz)) := Lib.hid (setRow_heap _ _ _ _ _ _ S2.out)
  clear hb2 C1 B1 B2
  go_wp2_with (first
    | (refine Great.wpList_allocTo rfl (some 4) rfl (.pointer (some ⟨w2.heap.size, 0, none⟩)) (.cells Z32 24) rfl ?_)
    | (refine wpList_store_rowTo rfl 24 (.tmp 4) (.tmp 14) rfl rfl w2.heap.size (bcells hz) rfl rfl 24 Z32 S2.out (Tryd.size24 hz L32) (by rw [bcells_size hz L32]; rfl) (bcells_one hz) ?_))
  generalize (w2.alloc (.cells Z32 24)).setRow w2.heap.size (bcells hz) = w3 at *
  generalize w2.heap.size = S at *
  clear S2
  refine (C3.out w3 B3.out).mono ?_
  rintro e w4 ⟨rfl, hb4⟩
  have B4 := Lib.hid (Below.step B3.out hb4)
  have K4 := Lib.hid (K3.out.below hb4 K3.out.lt)
  clear hb4 C3 K3 B3
  have tb : ∀ x ∈ hz.take 20, 0 ≤ x ∧ x ≤ 255 := fun x hx => HB.out x (List.mem_of_mem_take hx)
  have tl : (hz.take 20).length = 20 := by rw [List.length_take]; omega
  have sz : (strOfNums (hexZ (hz.take 20))).size = 40 := by rw [str_size, hexZ_length, tl]
  have CU := Lib.hid (unhex_any (strOfNums (hexZ (hz.take 20))) w4 (by omega))
  rw [unhexR_hex tb] at CU
  have HT := Lib.hid tb
  have HTL := Lib.hid tl
  clear tb tl
  have R20 := Lib.hid ((hash_row K4.out HL HB.out).first 20 (by omega))
  generalize hz.take 20 = ts at *
  generalize strOfNums (hexZ ts) = sn at *
  go_wp2_with fail
  refine CU.out.mono ?_
  rintro e w5 ⟨da, dc, rfl, hr5, hb5, hc5⟩
  have B5 := Lib.hid (Below.step B4.out hb5)
  have D5 := Lib.hid hr5
  have Q5 := Lib.hid (R20.out.below hb5)
  clear hr5 hb5 CU R20 B4 K4
  have cd : ∀ W, Ext w5.drew W → (convert 22 9 (.slice da ts.length dc)).run Tryd.prog W = .ok (.string (strOfNums ts)) W := fun W hW => conv_at dc (D5.out.below (Ext.of_drew hW))
  have cs : ∀ W, Ext w5.drew W → (convert 22 9 (.slice (some ⟨S, 0, none⟩) 20 32)).run Tryd.prog W = .ok (.string (strOfNums ts)) W := fun W hW => conv_at 32 (Q5.out.below (Ext.of_drew hW))
  generalize strOfNums ts = st at *
  go_wp2_with fail
  refine wp_region_ord Ext Ext.refl (fun _ _ _ => Ext.trans) ((0, false) :: (1, false) :: (2, false) :: (3, false) :: (4, false) :: (5, false) :: (6, false) :: (7, false) :: (8, false) :: (9, false) :: (10, false) :: (11, false) :: (12, false) :: (13, false) :: (14, false) :: (15, false) :: (16, false) :: []) (by kernel_rfl) (by kernel_rfl) rfl (by kernel_rfl) (fun _ _ _ _ _ h => h) ?_
  repeat (refine ord_take _ rfl (by rfl) (fun W hW => by go_simp; first | done | rfl) ?_; simp only [Act.put, List.setIfInBounds_toArray, List.set_cons_zero, List.set_cons_succ])
  refine ord_end ?_
  go_wp2_with fail
  go_ret
  exact ⟨rfl, Below.step B5.out (drewN_below w5 1)⟩

end Go.Proofs.YtgldoppcillljaaDoor
