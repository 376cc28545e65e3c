/-
  What the reference's Lines answers, for stage 2 (radix).
-/
import Derived.Test.YtmmcmiljnmbfcaaDoorStrs
import Derived.Test.YtmmcmiljnmbfcaaDoorPad
namespace Go.Proofs.YtmmcmiljnmbfcaaDoor
open Go.RowKit

def bytesOf (l : List UInt8) : ByteArray := ⟨l.toArray⟩
theorem bytesOf_data (s : ByteArray) : bytesOf s.data.toList = s := rfl
theorem data_bytesOf (l : List UInt8) : (bytesOf l).data.toList = l := rfl
def BL (ps : List (List UInt8)) : List ByteArray := ps.map bytesOf
theorem ext_piece (s : ByteArray) (a k : Nat) : s.extract a k = bytesOf (piece s.data.toList a k) := by
  rw [piece, ← Lib.extract_data, bytesOf_data]
theorem ext_self (s : ByteArray) (k : Nat) : s.extract k k = ByteArray.empty := by
  rw [ext_piece, piece_self]
  rfl
theorem nth_data (s : ByteArray) {k : Nat} (h : k < s.size) : ∃ hk : k < s.data.toList.length, nth s k = (s.data.toList[k].toNat : Int) := by
  have hk : k < s.data.toList.length := by rw [← Lib.size_eq]; exact h
  refine ⟨hk, ?_⟩
  unfold nth numsOf
  rw [List.getElem?_map, List.getElem?_eq_getElem hk]
  rfl
theorem byte_ten {c : UInt8} (h : (c.toNat : Int) = 10) : c = 10 := by
  apply UInt8.toNat_inj.1
  show c.toNat = 10
  omega
theorem byte_13 {c : UInt8} (h : (c.toNat : Int) = 13) : c = 13 := by
  apply UInt8.toNat_inj.1
  show c.toNat = 13
  omega

/-- Where the reference stands behind k bytes: what it has, and where the line at hand began. -/
def LinesAt (s : ByteArray) (k a : Nat) (L : List ByteArray) : Prop :=
  L.length ≤ k ∧ ((k ≤ s.size ∧ a ≤ k ∧ ∃ done, cutG [] s.data.toList = done ++ cutG (piece s.data.toList a k) (s.data.toList.drop k) ∧ L = BL (done.map trimR)) ∨ (k = s.size + 1 ∧ L = BL (linesL s.data.toList)))
theorem la_start (s : ByteArray) : LinesAt s 0 0 [] := ⟨Nat.zero_le _, .inl ⟨Nat.zero_le _, Nat.le_refl _, [], cut_start _, rfl⟩⟩
theorem la_step {s : ByteArray} {k a : Nat} {L : List ByteArray} (h : LinesAt s k a L) (hk : k < s.size) (hc : nth s k ≠ 10) : LinesAt s (k + 1) a L := by
  obtain ⟨hl, ⟨_, ha, done, hd, hL⟩ | ⟨e, _⟩⟩ := h
  · obtain ⟨hk', hn⟩ := nth_data s hk
    refine ⟨by omega, .inl ⟨by omega, by omega, done, cut_step hd ha hk' (fun e => hc ?_), hL⟩⟩
    rw [hn, e]
    rfl
  · omega
/-- The end of the line at hand: without its 13. -/
theorem la_trim {s : ByteArray} {k a t : Nat} (ha : a ≤ k) (hk : k ≤ s.size) (ht : (a < k ∧ nth s (k - 1) = 13 ∧ t = k - 1) ∨ ((a < k → nth s (k - 1) ≠ 13) ∧ t = k)) : trimR (piece s.data.toList a k) = piece s.data.toList a t ∧ a ≤ t ∧ t ≤ s.size := by
  have hs := Lib.size_eq s
  rcases ht with ⟨h1, h2, rfl⟩ | ⟨h1, rfl⟩
  · refine ⟨trimR_yes h1 (by omega) ?_, by omega, by omega⟩
    obtain ⟨hk', hn⟩ := nth_data s (show k - 1 < s.size by omega)
    rw [List.getElem?_eq_getElem hk', byte_13 (hn.symm.trans h2)]
  · refine ⟨trimR_no ha (by omega) (fun h2 e => h1 h2 ?_), ha, hk⟩
    obtain ⟨hk', hn⟩ := nth_data s (show t - 1 < s.size by omega)
    rw [List.getElem?_eq_getElem hk'] at e
    rw [hn, Option.some.inj e]
    rfl
theorem la_ten {s : ByteArray} {k a t : Nat} {L : List ByteArray} (h : LinesAt s k a L) (hk : k < s.size) (hc : nth s k = 10) (ht : (a < k ∧ nth s (k - 1) = 13 ∧ t = k - 1) ∨ ((a < k → nth s (k - 1) ≠ 13) ∧ t = k)) : LinesAt s (k + 1) (k + 1) (L ++ [s.extract a t]) := by
  obtain ⟨hl, ⟨_, ha, done, hd, hL⟩ | ⟨e, _⟩⟩ := h
  · obtain ⟨hk', hn⟩ := nth_data s hk
    obtain ⟨e, _, _⟩ := la_trim ha (by omega) ht
    refine ⟨by simp; omega, .inl ⟨by omega, by omega, done ++ [piece s.data.toList a k], cut_ten hd hk' (byte_ten (hn.symm.trans hc)), ?_⟩⟩
    rw [hL, ext_piece, ← e]
    simp [BL]
  · omega
theorem la_last {s : ByteArray} {a t : Nat} {L : List ByteArray} (h : LinesAt s s.size a L) (ht : (a < s.size ∧ nth s (s.size - 1) = 13 ∧ t = s.size - 1) ∨ ((a < s.size → nth s (s.size - 1) ≠ 13) ∧ t = s.size)) (b : Nat) :
    (a < t → LinesAt s (s.size + 1) b (L ++ [s.extract a t])) ∧ (¬ a < t → LinesAt s (s.size + 1) b L) := by
  obtain ⟨hl, ⟨_, ha, done, hd, hL⟩ | ⟨e, _⟩⟩ := h
  · obtain ⟨e, hat, hts⟩ := la_trim ha (Nat.le_refl _) ht
    have hs := Lib.size_eq s
    have hd := lines_end (cut_end hd (by omega))
    have hlen := piece_length (l := s.data.toList) hat (by omega)
    rw [e] at hd
    refine ⟨fun h1 => ⟨by simp; omega, .inr ⟨rfl, ?_⟩⟩, fun h1 => ⟨by omega, .inr ⟨rfl, ?_⟩⟩⟩
    · rw [hd, if_neg (fun e => by rw [e] at hlen; simp at hlen; omega), hL, ext_piece]
      simp [BL]
    · rw [hd, if_pos (List.eq_nil_of_length_eq_zero (by omega)), hL]
  · omega
theorem la_done {s : ByteArray} {k a : Nat} {L : List ByteArray} (h : LinesAt s k a L) (hk : s.size < k) : L = BL (linesL s.data.toList) := by
  obtain ⟨hl, ⟨_, ha, done, hd, hL⟩ | ⟨e, h⟩⟩ := h
  · omega
  · exact h
theorem la_bound {s : ByteArray} {k a : Nat} {L : List ByteArray} (h : LinesAt s k a L) (hs : s.size ≤ 6000) (hk : k ≤ s.size) : L.length ≤ 6000 ∧ a ≤ k := by
  obtain ⟨hl, ⟨_, ha, done, hd, hL⟩ | ⟨e, h⟩⟩ := h
  · exact ⟨by omega, ha⟩
  · omega

def GivesLines (s : ByteArray) (w : World) (e : Ending) (w' : World) : Prop :=
  ∃ a c, e = .returned (.slice a (linesL s.data.toList).length c) ∧ SRow w' a (linesL s.data.toList).length (BL (linesL s.data.toList)) ∧ Below w.heap.size w w'
theorem gives_lines {s : ByteArray} {w wr : World} {V : Value} (h : SOut w wr V (BL (linesL s.data.toList))) : GivesLines s w (.returned V) wr := by
  obtain ⟨a, c, rfl, hr⟩ := h.row
  have hl : (BL (linesL s.data.toList)).length = (linesL s.data.toList).length := List.length_map _
  rw [hl] at hr ⊢
  exact ⟨a, c, rfl, hr, h.2⟩

set_option maxHeartbeats 4000000 in
theorem rlines_any (s : ByteArray) (w : World) (hs : s.size ≤ 6000) : Calls Tryd.prog 8 #[.string s] w (GivesLines s w) := by
  go_enter Tryd.func8, Tryd.ntmps8
  go_wp2
  go_loopw [3, 4, 5] (fun V f i wr => ∃ (k a : Nat) (L : List ByteArray), k ≤ s.size + 1 ∧ i = .int .i64 (k : Int) ∧ f = .int .i64 (a : Int) ∧ SOut w wr V L ∧ LinesAt s k a L) (fun _ _ i _ => s.size + 1 - (intOf i).toNat)
  case atStart => exact ⟨0, 0, [], by omega, rfl, rfl, SOut.start w, la_start s⟩
  case round =>
    obtain ⟨k, a, L, hk, rfl, rfl, hout, hla⟩ := hrel
    have HO := Lib.hid hout
    have LA := Lib.hid hla
    clear hout hla
    rcases Nat.lt_trichotomy k s.size with hlt | hlt | hlt
    · obtain ⟨hlb, hak⟩ := la_bound LA.out hs (by omega)
      have hi := str_at s k hlt (k : Int) rfl
      have hb := nth_range s k
      by_cases hc : nth s k = 10
      · have C10 := Lib.hid hc
        rw [hc] at hi
        clear hb hc
        by_cases hak' : a < k
        · have hj := str_at s (k - 1) (by omega) ((k : Int) - 1) (by omega)
          have hb := nth_range s (k - 1)
          by_cases hd : nth s (k - 1) = 13
          · have D := Lib.hid hd
            rw [hd] at hj
            clear hb hd
            go_wp2_with (at_builtin; refine sout_append (W0 := w) (L := L) rfl _ _ rfl rfl HO.out rfl (by omega) ?_; intro V2 w2 ho2; have HO2 := Lib.hid ho2; clear ho2)
            go_roundw
            case rel => exact ⟨k + 1, k + 1, _, by omega, by go_num, by go_num, HO2.out, la_ten LA.out hlt C10.out (.inl ⟨hak', D.out, rfl⟩)⟩
            case measure => simp [intOf]; omega
          · have D := Lib.hid hd
            generalize nth s (k - 1) = d at hj hb hd
            have hne : (d == 13) = false := by simpa using hd
            clear hd
            go_wp2_with (at_builtin; refine sout_append (W0 := w) (L := L) rfl _ _ rfl rfl HO.out rfl (by omega) ?_; intro V2 w2 ho2; have HO2 := Lib.hid ho2; clear ho2)
            go_roundw
            case rel => exact ⟨k + 1, k + 1, _, by omega, by go_num, by go_num, HO2.out, la_ten LA.out hlt C10.out (.inr ⟨fun _ => D.out, rfl⟩)⟩
            case measure => simp [intOf]; omega
        · obtain rfl : k = a := by omega
          go_wp2_with (at_builtin; refine sout_append (W0 := w) (L := L) rfl _ _ rfl rfl HO.out rfl (by omega) ?_; intro V2 w2 ho2; have HO2 := Lib.hid ho2; clear ho2)
          go_roundw
          case rel => exact ⟨k + 1, k + 1, _, by omega, by go_num, by go_num, HO2.out, ext_self s k ▸ la_ten LA.out hlt C10.out (.inr ⟨fun h => absurd h (by omega), rfl⟩)⟩
          case measure => simp [intOf]; omega
      · have C10 := Lib.hid hc
        generalize nth s k = c at hi hb hc
        have hne : (c != 10) = true := by simpa using hc
        clear hc
        go_wp2
        go_roundw
        case rel => exact ⟨k + 1, a, _, by omega, by go_num, rfl, HO.out, la_step LA.out hlt C10.out⟩
        case measure => simp [intOf]; omega
    · subst hlt
      obtain ⟨hlb, hak⟩ := la_bound LA.out hs (by omega)
      by_cases hak' : a < s.size
      · have hj := str_at s (s.size - 1) (by omega) ((s.size : Int) - 1) (by omega)
        have hb := nth_range s (s.size - 1)
        by_cases hd : nth s (s.size - 1) = 13
        · have D := Lib.hid hd
          rw [hd] at hj
          clear hb hd
          by_cases hat : a < s.size - 1
          · go_wp2_with (at_builtin; refine sout_append (W0 := w) (L := L) rfl _ _ rfl rfl HO.out rfl (by omega) ?_; intro V2 w2 ho2; have HO2 := Lib.hid ho2; clear ho2)
            go_roundw
            case rel => exact ⟨s.size + 1, s.size + 1, _, by omega, by go_num, by go_num, HO2.out, (la_last LA.out (.inl ⟨hak', D.out, rfl⟩) (s.size + 1)).1 (by omega)⟩
            case measure => simp [intOf]
          · go_wp2
            go_roundw
            case rel => exact ⟨s.size + 1, s.size + 1, _, by omega, by go_num, by go_num, HO.out, (la_last LA.out (.inl ⟨hak', D.out, rfl⟩) (s.size + 1)).2 (by omega)⟩
            case measure => simp [intOf]
        · have D := Lib.hid hd
          generalize nth s (s.size - 1) = d at hj hb hd
          have hne : (d == 13) = false := by simpa using hd
          clear hd
          go_wp2_with (at_builtin; refine sout_append (W0 := w) (L := L) rfl _ _ rfl rfl HO.out rfl (by omega) ?_; intro V2 w2 ho2; have HO2 := Lib.hid ho2; clear ho2)
          go_roundw
          case rel => exact ⟨s.size + 1, s.size + 1, _, by omega, by go_num, by go_num, HO2.out, (la_last LA.out (.inr ⟨fun _ => D.out, rfl⟩) (s.size + 1)).1 (by omega)⟩
          case measure => simp [intOf]
      · obtain rfl : a = s.size := by omega
        go_wp2
        go_roundw
        case rel => exact ⟨s.size + 1, s.size + 1, _, by omega, by go_num, by go_num, HO.out, (la_last LA.out (.inr ⟨fun h => absurd h (by omega), rfl⟩) (s.size + 1)).2 (by omega)⟩
        case measure => simp [intOf]
    · have E := Lib.hid (la_done LA.out hlt)
      clear LA
      go_wp2
      go_ret
      exact gives_lines (by rw [← E.out]; exact HO.out)

end Go.Proofs.YtmmcmiljnmbfcaaDoor
