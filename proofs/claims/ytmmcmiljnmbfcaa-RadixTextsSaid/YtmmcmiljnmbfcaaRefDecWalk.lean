/-
  The walk of the reference's Decode, for stage 2 (radix).
-/
import Derived.Test.YtmmcmiljnmbfcaaRefDec
namespace Go.Proofs.Ytmmcmiljnmbfcaa
open Go.RowKit

theorem Out.drewN {W0 wr : World} {V : Value} {L : List Int} (h : Out W0 wr V L) (q : Nat) : Out W0 (wr.drewN q) V L := ⟨h.1, { h.2 with }⟩

/-- A new row of three bytes. -/
theorem row_three (w : World) (a b c : Int) (ha : 0 ≤ a ∧ a ≤ 255) (hb : 0 ≤ b ∧ b ≤ 255) (hc : 0 ≤ c ∧ c ≤ 255) : Row (w.alloc (.cells #[.int .u8 a, .int .u8 b, .int .u8 c] 5)) (some ⟨w.heap.size, 0, none⟩) 3 [a, b, c] := by
  refine ⟨rfl, by simp; exact ⟨ha, hb, hc⟩, fun _ => ⟨w.heap.size, 0, rfl, by simp, fun i hi => ?_⟩⟩
  have e := heap_alloc_new w (.cells #[.int .u8 a, .int .u8 b, .int .u8 c] 5)
  simp only [World.cell?, e]
  rcases i with _ | _ | _ | i
  · rfl
  · rfl
  · rfl
  · omega

theorem wD_few : ∀ l : List Int, l.length < 4 → wD l = []
  | [], _ => rfl
  | [_], _ => rfl
  | [_, _], _ => rfl
  | [_, _, _], _ => rfl
  | _ :: _ :: _ :: _ :: _, h => by simp at h; omega
theorem wD_rest {l : List Int} {k : Nat} (h : 4 * k ≤ l.length) (h1 : l.length ≤ 4 * k + 3) : wD (l.take (4 * k)) = wD l := by
  have e : wD l = wD (l.take (4 * k) ++ l.drop (4 * k)) := by rw [List.take_append_drop]
  rw [e, wD_append k _ _ (by rw [List.length_take]; omega), wD_few (l.drop (4 * k)) (by rw [List.length_drop]; omega), List.append_nil]

theorem bytes_ext {a b : ByteArray} (h : a.toList = b.toList) : a = b := by
  rw [ByteArray.toList_eq, ByteArray.toList_eq] at h
  exact ByteArray.ext (Array.ext' h)

theorem cnt_le (s : ByteArray) : cnt (numsOf s) ≤ 2 ∧ (s.size < 4 ∧ cnt (numsOf s) = 0 ∨ 4 ≤ s.size ∧ cnt (numsOf s) = pads (numsOf s)) := by
  have := pads_le s
  unfold cnt
  rw [numsOf_length]
  split <;> omega

set_option maxRecDepth 100000 in
set_option maxHeartbeats 1000000 in
theorem rdec_any (s : ByteArray) (w : World) (hs : s.size ≤ 1000) : Calls Try.prog 8 #[.string s] w (GivesD w (decS (numsOf s))) := by
  have NL := Lib.hid (numsOf_length s)
  have HC := Lib.hid (cnt_le s)
  go_enter Try.func8, Try.ntmps8
  go_wp2
  go_loopw [4, 5] (fun V i wr => ∃ k : Nat, 4 * k ≤ s.size ∧ i = .int .i64 (4 * (k : Int)) ∧ Out w wr V (wD ((numsOf s).take (4 * k)))) (fun _ i _ => s.size + 4 - (intOf i).toNat)
  case atStart => exact ⟨0, by omega, rfl, ⟨World.ownsRow_nil _ _ _ _, Below.refl _ _⟩⟩
  case round =>
    obtain ⟨k, hk, rfl, hout⟩ := hrel
    have HO := Lib.hid hout
    clear hout
    by_cases hlt : 4 * k + 3 < s.size
    · have ST := Lib.hid (wD_take (l := numsOf s) (k := k) (by rw [NL.out]; exact hlt))
      have hL : (wD ((numsOf s).take (4 * k))).length ≤ 1000 := by rw [wD_length _ _ (Nat.le_refl _), List.length_take]; omega
      generalize wD ((numsOf s).take (4 * k)) = L at HO ST hL
      have i0 := str_at s (4 * k) (by omega) (4 * (k : Int)) (by omega)
      have i1 := str_at s (4 * k + 1) (by omega) (4 * (k : Int) + 1) (by omega)
      have i2 := str_at s (4 * k + 2) (by omega) (4 * (k : Int) + 2) (by omega)
      have i3 := str_at s (4 * k + 3) (by omega) (4 * (k : Int) + 3) (by omega)
      have b0 := nth_range s (4 * k)
      have b1 := nth_range s (4 * k + 1)
      have b2 := nth_range s (4 * k + 2)
      have b3 := nth_range s (4 * k + 3)
      have ST' : Hid (wD ((numsOf s).take (4 * (k + 1))) = L ++ wB [nth s (4 * k), nth s (4 * k + 1), nth s (4 * k + 2), nth s (4 * k + 3)]) := ST.out
      clear ST
      generalize nth s (4 * k) = c0 at i0 b0 ST'
      generalize nth s (4 * k + 1) = c1 at i1 b1 ST'
      generalize nth s (4 * k + 2) = c2 at i2 b2 ST'
      generalize nth s (4 * k + 3) = c3 at i3 b3 ST'
      have v0 := wth_range c0
      have v1 := wth_range c1
      have v2 := wth_range c2
      have v3 := wth_range c3
      have ST'' : Hid (wD ((numsOf s).take (4 * (k + 1))) = L ++ [(wth c0 * 262144 + wth c1 * 4096 + wth c2 * 64 + wth c3) / 65536 % 256, (wth c0 * 262144 + wth c1 * 4096 + wth c2 * 64 + wth c3) / 256 % 256, (wth c0 * 262144 + wth c1 * 4096 + wth c2 * 64 + wth c3) % 256]) := ST'.out
      clear ST'
      have a1 : IntKind.i64.wrap (4 * (k : Int) + 1) = 4 * (k : Int) + 1 := IntWalk.i64_in _ (by omega)
      have a2 : IntKind.i64.wrap (4 * (k : Int) + 2) = 4 * (k : Int) + 2 := IntWalk.i64_in _ (by omega)
      have a3 : IntKind.i64.wrap (4 * (k : Int) + 3) = 4 * (k : Int) + 3 := IntWalk.i64_in _ (by omega)
      have m0 : IntKind.i64.wrap (wth c0 * 262144) = wth c0 * 262144 := IntWalk.i64_in _ (by omega)
      have m1 : IntKind.i64.wrap (wth c1 * 4096) = wth c1 * 4096 := IntWalk.i64_in _ (by omega)
      have m2 : IntKind.i64.wrap (wth c2 * 64) = wth c2 * 64 := IntWalk.i64_in _ (by omega)
      have s1 : IntKind.i64.wrap (wth c0 * 262144 + wth c1 * 4096) = wth c0 * 262144 + wth c1 * 4096 := IntWalk.i64_in _ (by omega)
      have s2 : IntKind.i64.wrap (wth c0 * 262144 + wth c1 * 4096 + wth c2 * 64) = wth c0 * 262144 + wth c1 * 4096 + wth c2 * 64 := IntWalk.i64_in _ (by omega)
      have s3 : IntKind.i64.wrap (wth c0 * 262144 + wth c1 * 4096 + wth c2 * 64 + wth c3) = wth c0 * 262144 + wth c1 * 4096 + wth c2 * 64 + wth c3 := IntWalk.i64_in _ (by omega)
      go_wp2
      go_quiet ((go_at_call 13; exact Calls.quiet_of_same (worth_any _ _ (by omega))))
      clear a1 a2 a3 m0 m1 m2 s1 s2 s3 i0 i1 i2 i3
      have hN : 0 ≤ wth c0 * 262144 + wth c1 * 4096 + wth c2 * 64 + wth c3 ∧ wth c0 * 262144 + wth c1 * 4096 + wth c2 * 64 + wth c3 < 16777216 := by omega
      generalize wth c0 * 262144 + wth c1 * 4096 + wth c2 * 64 + wth c3 = N at ST'' hN ⊢
      rw [show N / 65536 % 256 = N / 65536 by omega] at ST''
      have RW := Lib.hid (row_three (wr.drewN nq) (N / 65536) (N / 256 % 256) (N % 256) (by omega) (by omega) (by omega))
      go_wp2_with (at_builtin; refine out_append (W0 := w) (L := L) (zs := [N / 65536, N / 256 % 256, N % 256]) rfl _ _ rfl rfl ((HO.out.drewN nq).alloc _) rfl RW.out (fun e => by cases e) (by omega) ?_; intro V2 w2 ho2; have HO2 := Lib.hid ho2; clear ho2)
      go_roundw
      case rel => exact ⟨k + 1, by omega, by go_num, by rw [ST''.out]; exact HO2.out⟩
      case measure => simp [intOf]; omega
    · have hall : wD ((numsOf s).take (4 * k)) = wD (numsOf s) := wD_rest (by rw [NL.out]; exact hk) (by rw [NL.out]; omega)
      rw [hall] at HO
      clear hall
      obtain ⟨A, C, hV, hrow⟩ := HO.out.row (wD_byte _ _ (Nat.le_refl _))
      have hcap : (wD (numsOf s)).length ≤ C := by have := HO.out.1; rw [hV] at this; exact own_cap this
      have hn : (wD (numsOf s)).length = s.size / 4 * 3 := by rw [wD_length _ _ (Nat.le_refl _), NL.out]
      have HB := Lib.hid HO.out.2
      have RW := Lib.hid hrow
      clear HO hrow
      have H1 := Lib.hid (pads_is s)
      have H2 := Lib.hid (pads_not s)
      have RO : Hid (refOut (numsOf s) = (wD (numsOf s)).take ((wD (numsOf s)).length - cnt (numsOf s))) := rfl
      have hc := HC.out
      subst hV
      generalize wD (numsOf s) = B at RW hcap hn RO
      have HN := Lib.hid hn
      have hB : B.length ≤ 1000 := by omega
      clear hn HC
      have hc2 : cnt (numsOf s) ≤ 2 := hc.1
      have HCN := Lib.hid hc.2
      clear hc
      have HCE : Hid (cnt (numsOf s) = cnt (numsOf s)) := rfl
      generalize hcn : cnt (numsOf s) = p at hc2 HCN RO
      clear hcn HCE
      go_wp2
      go_loop [4, 7] (fun V i => ∃ m d : Nat, m + d = B.length ∧ d ≤ p ∧ i = .int .i64 (d : Int) ∧ V = .slice A m C) (fun _ i => 3 - (intOf i).toNat)
      case atStart => exact ⟨B.length, 0, rfl, by omega, rfl, rfl⟩
      case round =>
        obtain ⟨m, d, hmd, hd, rfl, rfl⟩ := hrel
        have HMD := Lib.hid hmd
        have hmB : m ≤ B.length := by omega
        clear hmd
        by_cases hlt : d < p
        · have hP : p = pads (numsOf s) ∧ 4 ≤ s.size := by
            rcases HCN.out with h | h
            · omega
            · exact ⟨h.2, h.1⟩
          have hm1 : 1 ≤ m := by have := HMD.out; have := HN.out; omega
          obtain ⟨m', rfl⟩ : ∃ m', m = m' + 1 := ⟨m - 1, by omega⟩
          have hi := str_at s (s.size - d - 1) (by omega) ((s.size : Int) - 1 - (d : Int)) (by omega)
          rw [H1.out d (by rw [← hP.1]; exact hlt)] at hi
          have hs4 := hP.2
          clear hP
          have t1 : decide ((d : Int) < 2) = true := by simp; omega
          have t2 : decide ((d : Int) < (s.size : Int)) = true := by simp; omega
          have t2' : decide (d < s.size) = true := by simp; omega
          have t3 : decide ((0 : Int) < ((m' + 1 : Nat) : Int)) = true := by simp
          have hm2 : m' + 1 ≤ C := by omega
          go_wp2
          go_round
          case rel => exact ⟨m', d + 1, by have := HMD.out; omega, by omega, by go_num, rfl⟩
          case measure => simp [intOf]; omega
        · obtain rfl : d = p := by omega
          have hE : Hid (B.take m = refOut (numsOf s)) := by
            rw [RO.out, show B.length - d = m by have := HMD.out; omega]; exact rfl
          have RM : Hid (Row wr A m (refOut (numsOf s))) := by
            have := RW.out.first m hmB
            rw [hE.out] at this
            exact this
          have hmC : m ≤ C := by omega
          have hlenO : (refOut (numsOf s)).length = m := RM.out.1
          have HLO := Lib.hid hlenO
          clear hlenO RO hE
          have tests : Hid (decide ((d : Int) < 2) = false ∨ decide ((d : Int) < 2) = true ∧ decide (d < s.size) = false ∨ decide ((d : Int) < 2) = true ∧ decide (d < s.size) = true ∧ m = 0 ∨
              decide ((d : Int) < 2) = true ∧ decide (d < s.size) = true ∧ 0 < m ∧ nth s (s.size - d - 1) ≠ 61) := by
            have h1 := HMD.out
            have h2 := HN.out
            show _ ∨ _
            by_cases a1 : d < 2
            · have a1' : decide ((d : Int) < 2) = true := by simp; omega
              by_cases a2 : d < s.size
              · have a2' : decide (d < s.size) = true := by simpa using a2
                rcases HCN.out with h | h
                · exact .inr (.inr (.inl ⟨a1', a2', by omega⟩))
                · refine .inr (.inr (.inr ⟨a1', a2', by omega, ?_⟩))
                  have := H2.out (by omega) (by omega)
                  rw [← h.2] at this
                  exact this
              · exact .inr (.inl ⟨a1', by simpa using a2⟩)
            · exact .inl (by simp; omega)
          have EQ : Hid ((∃ zs, decS (numsOf s) = some zs ∧ refOut (numsOf s) = zs ∧ strOfNums (encZ (refOut (numsOf s))) = s) ∨ decS (numsOf s) = none ∧ strOfNums (encZ (refOut (numsOf s))) ≠ s) := by
            cases hU : decS (numsOf s) with
            | none => exact .inr ⟨rfl, fun e => ref_none hU (by have := nums_str _ (encZ_byte _ (refOut (numsOf s)) (Nat.le_refl _)); rw [e] at this; exact this.symm)⟩
            | some zs => exact .inl ⟨zs, rfl, (ref_some (nums_byte s) hU).1, by rw [(ref_some (nums_byte s) hU).2, str_nums]⟩
          generalize refOut (numsOf s) = O at RM EQ HLO
          clear H1 H2 HCN HMD HN RW
          rcases tests.out with h1 | ⟨h1, h2⟩ | ⟨h1, h2, h3⟩ | ⟨h1, h2, h3, h4⟩
          · clear tests
            go_wp2_with fail
            refine (renc_any A m C O _ RM.out (by omega)).mono ?_
            rintro e w3 ⟨rfl, hb3⟩
            rcases EQ.out with ⟨zs, e1, e2, e3⟩ | ⟨e1, e2⟩
            · rw [e3]
              have HF : Hid (GivesD w (decS (numsOf s)) (.returned (.tuple #[.slice A m C, .bool true])) w3) := by
                rw [e1, ← e2]
                exact ⟨A, C, by rw [← HLO.out]; rfl, by have := RM.out.below hb3; rw [← HLO.out] at this; exact this, by simp; rw [HLO.out]; exact hmC, HB.out.trans (hb3.mono HB.out.size)⟩
              clear e1 e2 e3 EQ
              go_wp2
              go_ret2
              exact HF.out
            · clear EQ
              have E1 := Lib.hid e1
              clear e1
              have ts : (!(strOfNums (encZ O)).toList == s.toList) = true := by simpa using fun e => e2 (bytes_ext e)
              clear e2
              generalize strOfNums (encZ O) = S at ts ⊢
              go_wp2
              go_ret2
              exact nil_gives E1.out (HB.out.trans (hb3.mono HB.out.size))
          · have h2' : decide ((d : Int) < (s.size : Int)) = false := by simpa using h2
            clear tests
            go_wp2_with fail
            refine (renc_any A m C O _ RM.out (by omega)).mono ?_
            rintro e w3 ⟨rfl, hb3⟩
            rcases EQ.out with ⟨zs, e1, e2, e3⟩ | ⟨e1, e2⟩
            · rw [e3]
              have HF : Hid (GivesD w (decS (numsOf s)) (.returned (.tuple #[.slice A m C, .bool true])) w3) := by
                rw [e1, ← e2]
                exact ⟨A, C, by rw [← HLO.out]; rfl, by have := RM.out.below hb3; rw [← HLO.out] at this; exact this, by simp; rw [HLO.out]; exact hmC, HB.out.trans (hb3.mono HB.out.size)⟩
              clear e1 e2 e3 EQ
              go_wp2
              go_ret2
              exact HF.out
            · clear EQ
              have E1 := Lib.hid e1
              clear e1
              have ts : (!(strOfNums (encZ O)).toList == s.toList) = true := by simpa using fun e => e2 (bytes_ext e)
              clear e2
              generalize strOfNums (encZ O) = S at ts ⊢
              go_wp2
              go_ret2
              exact nil_gives E1.out (HB.out.trans (hb3.mono HB.out.size))
          · have h2' : decide ((d : Int) < (s.size : Int)) = true := by simpa using h2
            subst h3
            clear tests
            go_wp2_with fail
            refine (renc_any A 0 C O _ RM.out (by omega)).mono ?_
            rintro e w3 ⟨rfl, hb3⟩
            rcases EQ.out with ⟨zs, e1, e2, e3⟩ | ⟨e1, e2⟩
            · rw [e3]
              have HF : Hid (GivesD w (decS (numsOf s)) (.returned (.tuple #[.slice A 0 C, .bool true])) w3) := by
                rw [e1, ← e2]
                exact ⟨A, C, by rw [← HLO.out]; rfl, by have := RM.out.below hb3; rw [← HLO.out] at this; exact this, by simp; rw [HLO.out]; exact hmC, HB.out.trans (hb3.mono HB.out.size)⟩
              clear e1 e2 e3 EQ
              go_wp2
              go_ret2
              exact HF.out
            · clear EQ
              have E1 := Lib.hid e1
              clear e1
              have ts : (!(strOfNums (encZ O)).toList == s.toList) = true := by simpa using fun e => e2 (bytes_ext e)
              clear e2
              generalize strOfNums (encZ O) = S at ts ⊢
              go_wp2
              go_ret2
              exact nil_gives E1.out (HB.out.trans (hb3.mono HB.out.size))
          · have h2' : decide ((d : Int) < (s.size : Int)) = true := by simpa using h2
            have h2n : d < s.size := by simpa using h2
            have h3' : decide ((0 : Int) < (m : Int)) = true := by simpa using h3
            have hi := str_at s (s.size - d - 1) (by omega) ((s.size : Int) - 1 - (d : Int)) (by omega)
            generalize nth s (s.size - d - 1) = c at hi h4
            have h4' : (c == 61) = false := by simpa using h4
            clear tests h4
            go_wp2_with fail
            refine (renc_any A m C O _ RM.out (by omega)).mono ?_
            rintro e w3 ⟨rfl, hb3⟩
            rcases EQ.out with ⟨zs, e1, e2, e3⟩ | ⟨e1, e2⟩
            · rw [e3]
              have HF : Hid (GivesD w (decS (numsOf s)) (.returned (.tuple #[.slice A m C, .bool true])) w3) := by
                rw [e1, ← e2]
                exact ⟨A, C, by rw [← HLO.out]; rfl, by have := RM.out.below hb3; rw [← HLO.out] at this; exact this, by simp; rw [HLO.out]; exact hmC, HB.out.trans (hb3.mono HB.out.size)⟩
              clear e1 e2 e3 EQ
              go_wp2
              go_ret2
              exact HF.out
            · clear EQ
              have E1 := Lib.hid e1
              clear e1
              have ts : (!(strOfNums (encZ O)).toList == s.toList) = true := by simpa using fun e => e2 (bytes_ext e)
              clear e2
              generalize strOfNums (encZ O) = S at ts ⊢
              go_wp2
              go_ret2
              exact nil_gives E1.out (HB.out.trans (hb3.mono HB.out.size))
end Go.Proofs.Ytmmcmiljnmbfcaa
