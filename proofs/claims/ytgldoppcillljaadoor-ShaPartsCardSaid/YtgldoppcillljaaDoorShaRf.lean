/-
  What the reference's Of answers, for stage 6 (sha).
-/
import Derived.Test.YtgldoppcillljaaDoorShaTh
import Derived.Test.YtgldoppcillljaaDoorShaSu
namespace Go.Proofs.YtgldoppcillljaaDoor
open Go.RowKit
set_option linter.unusedVariables false

theorem H0_lit : (⟨0x6a09e667, 0xbb67ae85, 0x3c6ef372, 0xa54ff53a, 0x510e527f, 0x9b05688c, 0x1f83d9ab, 0x5be0cd19⟩ : V8) = H0 := rfl
theorem out_at (v : V8) (q : Nat) (hq : q < 8) : (outV v)[4 * q]?.getD 0 = v.list[q]?.getD 0 / 16777216 % 256 ∧ (outV v)[4 * q + 1]?.getD 0 = v.list[q]?.getD 0 / 65536 % 256 ∧ (outV v)[4 * q + 2]?.getD 0 = v.list[q]?.getD 0 / 256 % 256 ∧ (outV v)[4 * q + 3]?.getD 0 = v.list[q]?.getD 0 % 256 := by
  have e : outV v = beZ 4 v.a ++ beZ 4 v.b ++ beZ 4 v.c ++ beZ 4 v.d ++ beZ 4 v.e ++ beZ 4 v.f ++ beZ 4 v.g ++ beZ 4 v.h := by
    unfold outV V8.list
    simp
  rw [e, be4, be4, be4, be4, be4, be4, be4, be4]
  rcases q with _ | _ | _ | _ | _ | _ | _ | _ | q
  all_goals first | (exfalso; omega) | exact ⟨rfl, rfl, rfl, rfl⟩
theorem out_len (v : V8) : (outV v).length = 32 := by
  unfold outV V8.list
  simp [beZ_length]
theorem take_next (l : List Int) (k : Nat) (hk : k < l.length) : l.take (k + 1) = l.take k ++ [l[k]?.getD 0] := by
  rw [List.take_succ_eq_append_getElem hk, List.getElem?_eq_getElem hk]
  rfl

theorem Row32.setFar {w : World} {g S n j : Nat} {zs : List Int} {v : Value} (h : Row32 w (some ⟨g, 0, none⟩) n zs) (hne : g ≠ S) (hn : 0 < n) : Row32 (w.setCell ⟨S, j, none⟩ v) (some ⟨g, 0, none⟩) n zs := by
  refine ⟨h.1, h.2.1, fun _ => ?_⟩
  obtain ⟨b, off, e, hb, hc⟩ := h.2.2 hn
  injection e with e
  injection e with e1 e2
  subst e1 e2
  refine ⟨g, 0, rfl, by simpa using hb, fun i hi => ?_⟩
  rw [World.cell?_setCell_other _ _ _ _ (fun e => by injection e with e; exact hne e.symm)]
  exact hc i hi
theorem SumAt.put {w wr : World} {S : Nat} {L : List Int} {k : Nat} (h : SumAt w wr S (L.take k)) (hL : L.length = 32) (hk : k < 32) (hS : w.heap.size < S) : SumAt w (wr.setCell ⟨S, k, none⟩ (.int .u8 (L[k]?.getD 0))) S (L.take (k + 1)) := by
  refine ⟨h.1.far (by omega) _ _, ?_, h.2.2.setCell (by show w.heap.size ≤ S; omega) _⟩
  have ht : (L.take k).length = k := by rw [List.length_take]; omega
  have e := h.2.1.set k (.int .u8 (L[k]?.getD 0))
  rw [bcells_set _ _ _ ht.symm (by omega), ← take_next L k (by omega)] at e
  exact e
/-- Where the reference's Of stands, going through the blocks. -/
def GoAt (w wr : World) (af : Option Addr) (cf : Nat) (fl : List Int) (V : Value) (s : V8) : Prop :=
  (∃ g cap, V = .slice (some ⟨g, 0, none⟩) 8 cap ∧ Row32 wr (some ⟨g, 0, none⟩) 8 s.list) ∧ Row wr af fl.length fl ∧ Blk wr w.heap.size 24 Z32 ∧ Below w.heap.size w wr ∧ w.heap.size < wr.heap.size

set_option maxHeartbeats 1000000 in
set_option maxRecDepth 100000 in
theorem rof_any (a : Option Addr) (n ca : Nat) (zs : List Int) (w : World) (hr : Row w a n zs) (hn : n ≤ 100000) (hnil : a = none → ca = 0) : Calls Tryd.prog 9 #[.slice a n ca] w (GivesHash (hashZ zs) w) := by
  have BR : Hid (Below w.heap.size w ((w.alloc (.cells Z32 24)).alloc (.cells H0.cells 37))) := Lib.hid (((Below.refl _ _).alloc (Nat.le_refl _) _).alloc (by simp) _)
  have BA : Hid (Blk ((w.alloc (.cells Z32 24)).alloc (.cells H0.cells 37)) w.heap.size 24 Z32) := Lib.hid ((Blk.new w _ _).alloc _)
  have BH : Hid (Row32 ((w.alloc (.cells Z32 24)).alloc (.cells H0.cells 37)) (some ⟨(w.alloc (.cells Z32 24)).heap.size, 0, none⟩) 8 H0.list) := Lib.hid (row32_const (w.alloc (.cells Z32 24)) H0.list (list_range ok_H0))
  have hs1 : (w.alloc (.cells Z32 24)).heap.size = w.heap.size + 1 := by simp
  rw [hs1] at BH
  have CF := Lib.hid (fun W (hb : Below w.heap.size w W) => rfilled_any a n ca zs W (hr.below hb) hn hnil)
  have FB := Lib.hid (fill_byte hr.2.1)
  have hzn := hr.1
  have FL := (fill_len zs).1
  have FLB : (fillZ zs).length ≤ 200000 := by
    have := (fill_len zs).1
    have := pad_le zs.length
    omega
  have HX : Hid (hashZ zs = outV (runV ((fillZ zs).length / 64) H0 (fillZ zs))) := Lib.hid rfl
  clear hr hnil
  generalize hfl : fillZ zs = fl at *
  clear hfl
  generalize hashZ zs = hz at *
  generalize (zs.length + 9 + padN zs.length) / 64 = m at *
  have HFL := Lib.hid FL
  clear FL
  simp only [V8.cells, H0] at BR BA BH
  go_enter Tryd.func9, Tryd.ntmps9
  go_wp2_with (refine Great.wpList_allocTo rfl (some 2) rfl (.pointer (some ⟨w.heap.size, 0, none⟩)) (.cells Z32 24) rfl ?_)
  rw [H0_lit] at BH
  generalize (w.alloc (.cells Z32 24)).alloc (.cells #[.int .u32 1779033703, .int .u32 3144134277, .int .u32 1013904242, .int .u32 2773480762, .int .u32 1359893119, .int .u32 2600822924, .int .u32 528734635, .int .u32 1541459225] 37) = w1 at *
  clear hs1
  refine (CF.out _ BR.out).mono ?_
  intro e w2 h2
  obtain ⟨af, cf, rfl, hrf, hnf, hcf, hbf⟩ := h2.row FB.out
  have BF := Lib.hid hbf
  have ltR := BA.out.lt
  have G0 : Hid (GoAt w w2 af cf fl (.slice (some ⟨w.heap.size + 1, 0, none⟩) 8 8) (runV 0 H0 fl)) := Lib.hid ⟨⟨_, _, rfl, BH.out.below hbf⟩, hrf, BA.out.below hbf ltR, Below.step BR.out hbf, Nat.lt_of_lt_of_le ltR hbf.size⟩
  clear h2 hrf hbf CF BR BA BH BF ltR hnf
  go_wp2_with fail
  go_loopw [3, 5] (fun V i wr => ∃ j : Nat, 64 * j ≤ fl.length ∧ i = .int .i64 ((64 * j : Nat) : Int) ∧ GoAt w wr af cf fl V (runV j H0 fl)) (fun _ i _ => (200001 - intOf i).toNat)
  case atStart => exact ⟨0, by omega, rfl, G0.out⟩
  case round =>
    obtain ⟨j, hj, rfl, hg⟩ := hrel
    have GB := Lib.hid hg
    clear hg G0
    have OKJ := ok_run j fl ok_H0
    by_cases hlt : 64 * j < fl.length
    · have t0 : decide (((64 * j : Nat) : Int) < (fl.length : Int)) = true := by simp; omega
      have jl : 64 * (j + 1) ≤ fl.length := by have := HFL.out; omega
      have RL := Lib.hid (runV_last j H0 fl)
      generalize hs1 : runV (j + 1) H0 fl = s1 at *
      have HS1 := Lib.hid hs1
      clear hs1
      generalize runV j H0 fl = s at *
      obtain ⟨⟨g, cap, rfl, hrow⟩, hrf, hbz, hbl, hlz⟩ := GB.out
      have HROW := Lib.hid hrow
      have RF := Lib.hid ((hrf.rest (64 * j) cf (by omega) hcf).first 64 (by omega))
      obtain ⟨fb, fo, rfl, hfb, _⟩ := hrf.2.2 (by omega)
      clear hrow hrf hbz hbl hlz
      generalize ho : 64 * j = o at *
      have hne : ¬ cf = o := by omega
      rw [if_neg hne, Option.map_some, Addr.add_lit] at RF
      have e1 : IntKind.i64.wrap ((o : Int) + 64) = ((o + 64 : Nat) : Int) := by rw [Int.natCast_add]; exact IntWalk.i64_in _ (by omega)
      have o1 : (o : Int) ≤ ((o + 64 : Nat) : Int) := by omega
      have o2 : ((o + 64 : Nat) : Int) ≤ (cf : Int) := by omega
      have o3 : o + 64 - o = 64 := by omega
      have o4 : 64 ≤ cf - o := by omega
      have CT := Lib.hid (through_any s OKJ (some ⟨g, 0, none⟩) (some ⟨fb, fo + o, none⟩) cap (cf - o) ((fl.drop o).take 64) wr HROW.out RF.out o4)
      rw [← RL.out] at CT
      clear RL
      have D0 : decide ((o : Int) < (fl.length : Int)) = true := t0
      go_wp2_with fail
      refine CT.out.mono ?_
      rintro e w3 ⟨V3, rfl, ho3⟩
      obtain ⟨g5, cap5, rfl, hg5⟩ := ho3.form (by show 0 < 8; omega)
      obtain ⟨a6, c6, ha6, hr6⟩ := ho3.row (list_range (by rw [← HS1.out]; exact ok_run _ _ ok_H0))
      injection ha6 with ha6 _ hc6
      subst ha6 hc6
      have B3 := ho3.2
      have G2 : Hid (GoAt w w3 (some ⟨fb, fo, none⟩) cf fl (.slice (some ⟨g5, 0, none⟩) 8 cap5) s1) := by
        obtain ⟨_, hrf, hbz, hbl, hlz⟩ := GB.out
        exact Lib.hid ⟨⟨_, _, rfl, hr6⟩, hrf.below B3, hbz.below B3 hlz, Below.step hbl B3, Nat.lt_of_lt_of_le hlz B3.size⟩
      clear ho3 hr6 B3 GB HROW RF CT
      go_wp2_with fail
      go_roundw
      case rel => exact ⟨j + 1, jl, by rw [show 64 * (j + 1) = o + 64 by omega]; first | rfl | go_num, by rw [HS1.out]; exact G2.out⟩
      case measure => simp only [intOf]; omega
    · have je : fl.length / 64 = j := by have := HFL.out; omega
      have F : Hid (hz = outV (runV j H0 fl)) := by rw [← je]; exact HX
      have t0 : decide (((64 * j : Nat) : Int) < (fl.length : Int)) = false := by simp; omega
      generalize runV j H0 fl = s at *
      obtain ⟨⟨g, cap, rfl, hrow⟩, hrf, hbz, hbl, ltS⟩ := GB.out
      have HROW := Lib.hid hrow
      have HBZ := Lib.hid hbz
      have HBL := Lib.hid hbl
      clear hrow hrf hbz hbl je GB HX
      generalize ho : 64 * j = o at *
      clear ho
      go_wp2_with (refine Great.wpList_allocTo rfl (some 6) rfl (.pointer (some ⟨wr.heap.size, 0, none⟩)) (.cells Z32 24) rfl ?_)
      have OL := out_len s
      have S0 : Hid (SumAt w (wr.alloc (.cells Z32 24)) wr.heap.size ((outV s).take 0)) := Lib.hid ⟨HBZ.out.alloc _, Blk.new wr _ _, HBL.out.alloc HBL.out.size _⟩
      have R0 : Hid (Row32 (wr.alloc (.cells Z32 24)) (some ⟨g, 0, none⟩) 8 s.list) := Lib.hid (HROW.out.below ((Below.refl _ _).alloc (Nat.le_refl _) _))
      have gS : g < wr.heap.size := by
        obtain ⟨_, _, e, hb, _⟩ := HROW.out.2.2 (by omega)
        injection e with e
        injection e with e1 _
        omega
      clear HBZ HROW HBL
      generalize wr.alloc (.cells Z32 24) = w5 at *
      generalize wr.heap.size = S at *
      go_loopw [7] (fun i wr => ∃ k : Nat, k ≤ 32 ∧ i = .int .i64 (k : Int) ∧ SumAt w wr S ((outV s).take k) ∧ Row32 wr (some ⟨g, 0, none⟩) 8 s.list) (fun i _ => (33 - intOf i).toNat)
      case atStart => exact ⟨0, by omega, rfl, S0.out, R0.out⟩
      case round =>
        obtain ⟨k, hk, rfl, hsa, hrw⟩ := hrel
        have SA := Lib.hid hsa
        have RW := Lib.hid hrw
        clear hsa hrw S0 R0
        by_cases hk2 : k < 32
        · have t0 : decide ((k : Int) < 32) = true := by simp; omega
          have kI : (k : Int) < 32 := by omega
          obtain ⟨q, hq⟩ : ∃ q, q = k / 4 := ⟨_, rfl⟩
          obtain ⟨r, hr⟩ : ∃ r, r = k % 4 := ⟨_, rfl⟩
          have hqr : k = 4 * q + r := by omega
          have q8 : q < 8 := by omega
          have r4 : r < 4 := by omega
          have d1 : (k : Int).tdiv 4 = (q : Int) := by rw [Int.tdiv_eq_ediv_of_nonneg (by omega)]; omega
          have d2 : (k : Int).tmod 4 = (r : Int) := by rw [Int.tmod_eq_emod_of_nonneg (by omega)]; omega
          have qI : (q : Int) < 8 := by omega
          obtain ⟨_, _, hge, _, hgc⟩ := RW.out.2.2 (by omega)
          injection hge with hge
          injection hge with hge1 hge2
          subst hge1 hge2
          have c0 := hgc q q8
          rw [Nat.zero_add] at c0
          have xr := RW.out.num q
          obtain ⟨a0, a1, a2, a3⟩ := out_at s q q8
          have cS := (SA.out.2.1.cell k).trans (bcells_get _ k hk2)
          have fS := SA.out.2.1.free k
          have NX := Lib.hid (SA.out.put OL hk2 ltS)
          have NR := Lib.hid (fun v => RW.out.setFar (j := k) (v := v) (Nat.ne_of_lt gS) (by omega))
          generalize s.list[q]?.getD 0 = x at *
          clear hgc SA RW hq hr
          have r_is : r = 0 ∨ r = 1 ∨ r = 2 ∨ r = 3 := by omega
          rcases r_is with rfl | rfl | rfl | rfl
          · have EV : (outV s)[k]?.getD 0 = x / 16777216 := by rw [hqr]; exact a0.trans (by omega)
            rw [EV] at NX
            have d2' : (k : Int).tmod 4 = 0 := d2
            clear d2 a0 a1 a2 a3 EV hqr
            go_wp2_with fail
            go_roundw
            case rel => exact ⟨k + 1, by omega, by first | rfl | go_num, NX.out, NR.out _⟩
            case measure => simp only [intOf]; omega
          · have EV : (outV s)[k]?.getD 0 = x / 65536 % 256 := by rw [hqr]; exact a1
            rw [EV] at NX
            have d2' : (k : Int).tmod 4 = 1 := d2
            clear d2 a0 a1 a2 a3 EV hqr
            go_wp2_with fail
            go_roundw
            case rel => exact ⟨k + 1, by omega, by first | rfl | go_num, NX.out, NR.out _⟩
            case measure => simp only [intOf]; omega
          · have EV : (outV s)[k]?.getD 0 = x / 256 % 256 := by rw [hqr]; exact a2
            rw [EV] at NX
            have d2' : (k : Int).tmod 4 = 2 := d2
            clear d2 a0 a1 a2 a3 EV hqr
            go_wp2_with fail
            go_roundw
            case rel => exact ⟨k + 1, by omega, by first | rfl | go_num, NX.out, NR.out _⟩
            case measure => simp only [intOf]; omega
          · have EV : (outV s)[k]?.getD 0 = x % 256 := by rw [hqr]; exact a3
            rw [EV] at NX
            have d2' : (k : Int).tmod 4 = 3 := d2
            clear d2 a0 a1 a2 a3 EV hqr
            go_wp2_with fail
            go_roundw
            case rel => exact ⟨k + 1, by omega, by first | rfl | go_num, NX.out, NR.out _⟩
            case measure => simp only [intOf]; omega
        · obtain rfl : k = 32 := by omega
          have E : (outV s).take 32 = hz := by rw [F.out]; exact List.take_of_length_le (by omega)
          rw [E] at SA
          have L32 : hz.length ≤ 32 := by rw [F.out]; omega
          have KA := Lib.hid SA.out.1
          have KS := Lib.hid SA.out.2.1
          have KW := Lib.hid SA.out.2.2
          clear SA RW F E
          rw [show ((32 : Nat) : Int) = 32 by rfl]
          go_wp2_with (first
            | (refine wpList_load_row rfl 24 (.tmp 6) rfl S rfl 24 (bcells hz) (0, 0) (.array 32 5) KS.out Tryd.underlying24 rfl (Tryd.size24 hz L32) ?_)
            | (refine wpList_store_rowTo rfl 24 (.tmp 2) (.tmp 41) rfl rfl w.heap.size (bcells hz) rfl rfl 24 Z32 KA.out (Tryd.size24 hz L32) (by rw [bcells_size hz L32]; rfl) (bcells_one hz) ?_))
          exact bodyPost_ret (results_cell_row rfl _ _ w.heap.size 24 (bcells hz) (0, 0) (.array 32 5) rfl (setRow_heap _ _ _ _ 24 _ KA.out) Tryd.underlying24 rfl (Tryd.size24 hz L32)) rfl ⟨rfl, below_setRow KW.out (Nat.le_refl _) _⟩

end Go.Proofs.YtgldoppcillljaaDoor
