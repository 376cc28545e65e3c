/-
  What radix.Lines answers, for stage 2 (radix).
-/
import Derived.Test.YtmmcmiljnmbfcaaDoorRefLines
import Derived.Test.YtmmcmiljnmbfcaaDoorShelf
namespace Go.Proofs.YtmmcmiljnmbfcaaDoor
open Go.RowKit

def trimB (p : ByteArray) : ByteArray := bytesOf (trimR p.data.toList)
def cutB (s : ByteArray) : List ByteArray := BL (cutG [] s.data.toList)

theorem cutG_le : ∀ (l acc : List UInt8), ∀ p ∈ cutG acc l, p.length ≤ acc.length + l.length
  | [], acc, p, h => by
    obtain rfl : p = acc := by simpa [cutG] using h
    simp
  | c :: r, acc, p, h => by
    unfold cutG at h
    split at h
    · rcases List.mem_cons.1 h with rfl | h
      · omega
      · have := cutG_le r [] p h
        simp at this ⊢
        omega
    · have := cutG_le r (acc ++ [c]) p h
      simp at this ⊢
      omega
theorem cutG_len : ∀ (l acc : List UInt8), 1 ≤ (cutG acc l).length ∧ (cutG acc l).length ≤ l.length + 1
  | [], acc => by simp [cutG]
  | c :: r, acc => by
    unfold cutG
    split
    · have := cutG_len r []
      simp
      omega
    · have := cutG_len r (acc ++ [c])
      simp
      omega
theorem cutB_split (s : ByteArray) : Lib.splitB ⟨#[10]⟩ 0 (Lib.countB s ⟨#[10]⟩) s = cutB s := by
  unfold cutB
  rw [← split_cut, BL, List.map_map]
  have : (bytesOf ∘ fun x : ByteArray => x.data.toList) = id := by
    funext x
    exact bytesOf_data x
  rw [this, List.map_id]
theorem cutB_len (s : ByteArray) : 1 ≤ (cutB s).length ∧ (cutB s).length ≤ s.size + 1 := by
  have := cutG_len s.data.toList []
  have h := Lib.size_eq s
  unfold cutB BL
  rw [List.length_map]
  omega
theorem cutB_le {s p : ByteArray} (h : p ∈ cutB s) : p.size ≤ s.size := by
  obtain ⟨q, hq, rfl⟩ := List.mem_map.1 h
  have := cutG_le _ _ q hq
  rw [Lib.size_eq, Lib.size_eq, data_bytesOf]
  simpa using this
theorem cutB_trim (s : ByteArray) : (cutB s).map trimB = BL ((cutG [] s.data.toList).map trimR) := by
  unfold cutB BL
  rw [List.map_map, List.map_map]
  rfl
theorem trimB_size (p : ByteArray) : (trimB p).size ≤ p.size := by
  rw [Lib.size_eq, Lib.size_eq, trimB, data_bytesOf, trimR, Lib.trimSuffix]
  split
  · rw [List.length_take]
    omega
  · exact Nat.le_refl _

theorem trim_any (p : ByteArray) (w : World) (hs : p.size ≤ 1000000) : Calls Tryd.prog 15 #[.string p, .string ⟨#[13]⟩] w fun e w' => e = .returned (.string (trimB p)) ∧ w = w' :=
  (Tryd.strings_TrimSuffix p ⟨#[13]⟩ w (by omega)).mono fun _ _ ⟨h1, h2⟩ => ⟨h1, h2.symm⟩
theorem clone_any (p : ByteArray) (w : World) (hs : p.size ≤ 1000000) : Calls Tryd.prog 14 #[.string p] w fun e w' => e = .returned (.string p) ∧ Below w.heap.size w w' := by
  go_enter Tryd.func14, Tryd.ntmps14
  go_wp2_with fail
  refine (Tryd.stringslite_Clone p w (by omega)).mono ?_
  rintro e w1 ⟨rfl, hb⟩
  go_wp2
  go_ret
  exact ⟨rfl, hb⟩

def GivesParts (s : ByteArray) (w : World) (e : Ending) (w' : World) : Prop :=
  ∃ a c, e = .returned (.slice a (cutB s).length c) ∧ SRow w' a (cutB s).length (cutB s) ∧ Below w.heap.size w w'
theorem split_any (s : ByteArray) (m : Int) (w : World) (hs : s.size ≤ 1000000) (hm : w.cell? ⟨0, 0, none⟩ = some (.int .i64 m)) : Calls Tryd.prog 13 #[.string s, .string ⟨#[10]⟩] w (GivesParts s w) := by
  refine (Tryd.strings_Split s ⟨#[10]⟩ m w (by omega) hm (by decide)).mono ?_
  rintro e w' ⟨rfl, rfl⟩
  have hl : Lib.countB s ⟨#[10]⟩ + 1 = (cutB s).length := by
    rw [← cutB_split]
    exact (Lib.splitB_all _ (by decide) 0 _ s rfl).symm
  rw [cutB_split, hl]
  refine ⟨_, _, rfl, ⟨rfl, fun hn => ⟨w.heap.size, 0, rfl, by simp, fun i hi => ?_⟩⟩, (Below.refl _ _).alloc (Nat.le_refl _) _⟩
  have e := heap_alloc_new w (.cells ((cutB s).map Value.string).toArray 9)
  simp only [World.cell?, e]
  simp [hi]

/-- What has been read of the parts so far. -/
def LineRel (s : ByteArray) (k : Nat) (L : List ByteArray) : Prop := L = ((cutB s).take k).map trimB
theorem lr_step {s : ByteArray} {k : Nat} {L : List ByteArray} (h : LineRel s k L) (hk : k < (cutB s).length) : LineRel s (k + 1) (L ++ [trimB ((cutB s)[k]?.getD ByteArray.empty)]) := by
  unfold LineRel at h ⊢
  rw [List.take_succ_eq_append_getElem hk, List.map_append, ← h, List.getElem?_eq_getElem hk]
  rfl
theorem lr_len {s : ByteArray} {k : Nat} {L : List ByteArray} (h : LineRel s k L) (hk : k ≤ (cutB s).length) : L.length = k := by
  rw [h, List.length_map, List.length_take]
  omega
/-- Behind the last part. -/
theorem lr_done {s : ByteArray} {k : Nat} {L : List ByteArray} (h : LineRel s k L) (hk : k = (cutB s).length) :
    ∃ (ps : List (List UInt8)) (q : List UInt8), L = BL ps ++ [bytesOf q] ∧ linesL s.data.toList = if q = [] then ps else ps ++ [q] := by
  have hl := (cutB_len s).1
  rw [LineRel, List.take_of_length_le (by omega), cutB_trim] at h
  have h0 : (cutG [] s.data.toList).map trimR ≠ [] := by
    intro e
    have h2 : (cutB s).length = ((cutG [] s.data.toList).map trimR).length := by
      unfold cutB BL
      rw [List.length_map, List.length_map]
    rw [e, List.length_nil] at h2
    omega
  rcases List.eq_nil_or_concat ((cutG [] s.data.toList).map trimR) with e | ⟨ps, q, e⟩
  · exact absurd e h0
  · rw [List.concat_eq_append] at e
    refine ⟨ps, q, ?_, ?_⟩
    · rw [h, e]
      simp [BL]
    · unfold linesL
      rw [e, lopE_snoc]

theorem SOut.form {W0 wr : World} {V : Value} {L : List ByteArray} (h : SOut W0 wr V L) (h0 : 0 < L.length) : ∃ g cap, V = .slice (some ⟨g, 0, none⟩) L.length cap ∧ L.length ≤ cap := by
  rcases h.1.2 with ⟨_, e⟩ | ⟨g, cap, cur, e, _, _, hcap, _⟩
  · omega
  · exact ⟨g, cap, e, hcap⟩

theorem gives_first {s : ByteArray} {w wr : World} {ps : List (List UInt8)} {a : Option Addr} {n c : Nat} (e : linesL s.data.toList = ps) (hb : Below w.heap.size w wr) (h : SRow wr a n (BL ps)) : GivesLines s w (.returned (.slice a n c)) wr := by
  subst e
  have hl : (BL (linesL s.data.toList)).length = (linesL s.data.toList).length := List.length_map _
  obtain rfl : n = (linesL s.data.toList).length := by rw [← hl]; exact h.1.symm
  exact ⟨a, c, rfl, h, hb⟩

set_option maxHeartbeats 2000000 in
theorem lines_any (s : ByteArray) (m : Int) (w : World) (hs : s.size ≤ 6000) (hm : w.cell? ⟨0, 0, none⟩ = some (.int .i64 m)) : Calls Tryd.prog 7 #[.string s] w (GivesLines s w) := by
  have CL := cutB_len s
  go_enter Tryd.func7, Tryd.ntmps7
  go_wp2_with fail
  refine (split_any s m w (by omega) hm).mono ?_
  rintro e w1 ⟨a, c, rfl, hrow, hb1⟩
  have R := Lib.hid hrow
  have B1 := Lib.hid hb1
  clear hrow hb1 hm
  obtain ⟨N, hN⟩ : ∃ N, N = (cutB s).length := ⟨_, rfl⟩
  rw [← hN] at R CL ⊢
  have HN := Lib.hid hN
  clear hN
  go_wp2
  go_loopw [3, 10] (fun V i wr => ∃ (k : Nat) (L : List ByteArray), k ≤ N ∧ i = .int .i64 (k : Int) ∧ SOut w1 wr V L ∧ LineRel s k L) (fun _ i _ => N - (intOf i).toNat)
  case atStart => exact ⟨0, [], by omega, rfl, SOut.start w1, rfl⟩
  case round =>
    obtain ⟨k, L, hk, rfl, hout, hlr⟩ := hrel
    have HO := Lib.hid hout
    have LR := Lib.hid hlr
    clear hout hlr
    have HL := Lib.hid (lr_len LR.out (by rw [← HN.out]; exact hk))
    have hll : L.length ≤ k := by rw [HL.out]; exact Nat.le_refl _
    by_cases hlt : k < N
    · obtain ⟨b, off, rfl, hb, hc⟩ := (R.out.below HO.out.2).2 (by omega)
      have c1 := hc k hlt
      clear hc
      have ST := Lib.hid (lr_step LR.out (by rw [← HN.out]; exact hlt))
      have hp : ((cutB s)[k]?.getD ByteArray.empty).size ≤ s.size := by
        rw [List.getElem?_eq_getElem (by rw [← HN.out]; exact hlt)]
        exact cutB_le (List.getElem_mem _)
      generalize (cutB s)[k]?.getD ByteArray.empty = p at c1 ST hp
      have ht := trimB_size p
      go_wp2_with fail
      refine (trim_any p _ (by omega)).mono ?_
      rintro e w2 ⟨rfl, rfl⟩
      generalize trimB p = t at ST ht
      go_wp2_with fail
      refine (clone_any t _ (by omega)).mono ?_
      rintro e w2 ⟨rfl, hb2⟩
      have HO2 := Lib.hid (HO.out.below hb2)
      clear hb2
      go_wp2_with (at_builtin; refine sout_append (W0 := w1) (L := L) rfl _ _ rfl rfl HO2.out rfl (by omega) ?_; intro V3 w3 ho3; have HO3 := Lib.hid ho3; clear ho3)
      go_roundw
      case rel => exact ⟨k + 1, _, by omega, by go_num, HO3.out, ST.out⟩
      case measure => simp [intOf]; omega
    · have hkn : k = N := by omega
      subst hkn
      obtain ⟨ps, q, hL, hlin⟩ := lr_done LR.out HN.out
      subst hL
      have LI := Lib.hid hlin
      clear hlin LR HL
      obtain ⟨g, cap, rfl, hcap⟩ := HO.out.form (by simp)
      have hlen : (BL ps ++ [bytesOf q]).length = ps.length + 1 := by simp [BL]
      have hpl : ps.length ≤ k := by omega
      have hpc : ps.length + 1 ≤ cap := by omega
      have hrow := HO.out.row
      obtain ⟨a, c, ea, hrow⟩ := hrow
      injection ea with ea1 ea2 ea3
      subst ea1
      have hcell : wr.cell? ⟨g, ps.length, none⟩ = some (.string (bytesOf q)) := by
        obtain ⟨b2, o2, e2, _, hc⟩ := hrow.2 (by omega)
        injection e2 with e2
        injection e2 with e3 e4
        subst e3
        subst e4
        have := hc ps.length (by omega)
        rw [Nat.zero_add, List.getElem?_append_right (by simp [BL])] at this
        simpa [BL] using this
      have HR := Lib.hid hrow
      have FB := Lib.hid (Below.trans B1.out (HO.out.2.mono B1.out.size))
      rw [hlen]
      clear hrow ea2 ea3 hlen hll hcap HO
      by_cases hq : q = []
      · have hem : (bytesOf q).toList.isEmpty = true := by
          rw [hq, Lib.toList_data]
          rfl
        have E := Lib.hid (LI.out.trans (if_pos hq))
        clear LI hq
        go_wp2
        go_ret
        exact gives_first E.out FB.out (by simpa [BL] using HR.out.first ps.length (by simp [BL]))
      · have hem : (bytesOf q).toList.isEmpty = false := by
          rw [Lib.toList_data, data_bytesOf]
          cases q with
          | nil => exact absurd rfl hq
          | cons _ _ => rfl
        have E := Lib.hid (LI.out.trans (if_neg hq))
        clear LI hq
        go_wp2
        go_ret
        exact gives_first E.out FB.out (by simpa [BL] using HR.out)

end Go.Proofs.YtmmcmiljnmbfcaaDoor
