/-
  An argument that is a slice of slices of bytes; the walk of stage 6's second law (sha): parts do not matter.
-/
import Derived.Test.YtgldoppcillljaaDoorShaAw
import Derived.ChangeArms
import Derived.OpenShut
namespace Go.Proofs.YtgldoppcillljaaDoor
open Go.RowKit
set_option linter.unusedVariables false

/-- The slice has k slices of bytes. -/
def PartsIn (w : World) (K : Option Addr) (k : Nat) : Prop :=
  0 < k → ∃ b off, K = some ⟨b, off, none⟩ ∧ b < w.heap.size ∧ ∀ i, i < k → ∃ a n c zs, w.cell? ⟨b, off + i, none⟩ = some (.slice a n c) ∧ Row w a n zs ∧ n ≤ c ∧ (a = none → c = 0)
theorem Tryd.cells22 : Tryd.prog.cellsOf 22 = 1 := by kernel_rfl
section
open Go.ChangeShapes Go.WideShapes Go.ChangeAt
variable {H : Type} {enc : TypeId × Value → H}
set_option maxRecDepth 100000 in
/-- An argument of type [][]byte. -/
theorem open_parts {w : World} {held : Bool} {K : Option Addr} {k d : Nat} {x : DataW H} {p : List MemPlace} (h : DataW.Trod enc Tryd.prog w 0 (fun _ => true) held 28 (.slice K k d) x p) :
    PartsIn w K k ∧ k ≤ maxLen := by
  obtain ⟨fuel, hf⟩ := h
  rcases DataW.trod_slice Tryd.underlying28 hf with ⟨hcs, _⟩ | ⟨a, len, cap, elems, rest, n', hn', hcs, _, _, hl, hm, hlen, hel, _, _⟩
  · simp [Value.cells] at hcs
    obtain ⟨rfl, rfl, rfl⟩ := hcs
    exact ⟨fun h => absurd h (by omega), Nat.zero_le _⟩
  · simp [Value.cells] at hcs
    obtain ⟨rfl, rfl, rfl⟩ := hcs
    rw [Tryd.cells22] at hel
    have each : ∀ i, i < k → ∃ u n c zs, w.cell? (a.add i) = some (.slice u n c) ∧ Row w u n zs ∧ n ≤ c ∧ (u = none → c = 0) := by
      intro i hi
      have he := hel i hi
      rw [List.getElem?_eq_getElem (by omega)] at he
      obtain ⟨ci, hci, hti⟩ := Option.bind_eq_some_iff.1 he
      obtain ⟨_, hsz, hc⟩ := World.cells?_some hci
      have c0 := hc 0 (by omega)
      rw [Nat.mul_one, Addr.add_zero'] at c0
      rcases open_ints Tryd.underlying22 Tryd.underlying5 (by kernel_rfl) hti with ⟨rfl, _⟩ | ⟨x, l, c, zs, rfl, _, hl, hm, hz, _, hcell, hwz⟩
      · exact ⟨none, 0, 0, [], by simpa using c0, Row.nil _ _, Nat.le_refl _, fun _ => rfl⟩
      · refine ⟨some x, l, c, zs.take l, by simpa using c0, (row_of (.inr ⟨x, rfl, hl, hm, by simpa using hz, hcell, hwz⟩)).1, hl, fun h => by cases h⟩
    refine ⟨fun hpos => ?_, by omega⟩
    obtain ⟨b, off, spot⟩ := a
    obtain ⟨_, _, _, _, hc0, _⟩ := each 0 hpos
    have hspot : spot = none := by simpa [Addr.add] using World.cell?_spot hc0
    subst hspot
    refine ⟨b, off, rfl, by have := cell_block hc0; simpa [Addr.add] using this, fun i hi => ?_⟩
    obtain ⟨u, n, c, zs, h1, h2⟩ := each i hi
    rw [Addr.add_lit] at h1
    exact ⟨u, n, c, zs, h1, h2⟩
end

theorem PartsIn.at {w : World} {K : Option Addr} {k : Nat} (h : PartsIn w K k) (i : Nat) (hi : i < k) : ∃ b off a n c zs, K = some ⟨b, off, none⟩ ∧ b < w.heap.size ∧ w.cell? ⟨b, off + i, none⟩ = some (.slice a n c) ∧ Row w a n zs ∧ n ≤ c ∧ (a = none → c = 0) := by
  obtain ⟨b, off, e, hb, hc⟩ := h (by omega)
  obtain ⟨a, n, c, zs, h1⟩ := hc i hi
  exact ⟨b, off, a, n, c, zs, e, hb, h1⟩

/-- Bytes are appended; what else lies in memory stays. -/
theorem out_append_by {ops : Array Oper} {rest : List Oper} {o : Oper} {a : Act} {Q : Exit → Act → World → Prop} {W0 w : World} {V : Value} {L zs : List Int} {A : Option Addr} {m c : Nat} (hgd : o.guard = none) (s x : Operand)
    (hop : o.op = .call { callee := .builtin .append, args := #[s, x], argTypes := #[22, 22] }) (hs : a.eval s = V) (hout : Out W0 w V L) (hx : a.eval x = .slice A m c) (hr : Row w A m zs) (hnil : A = none → c = 0) (hl : L.length + m ≤ 1000000)
    (h : ∀ V' w', Out W0 w' V' (L ++ zs) → w.grownBy w' V.ownBlock → wpList Tryd.prog ops Q rest (a.put o.dst V') w') : wpList Tryd.prog ops Q (o :: rest) a w := by
  obtain ⟨i0, hi5, hz0, hz1, hz2⟩ := info_parts Tryd.infoByte
  cases A with
  | none =>
    obtain rfl := hnil rfl
    have hm : m = 0 := by
      rcases Nat.eq_zero_or_pos m with h0 | h0
      · exact h0
      · obtain ⟨_, _, e, _⟩ := hr.2.2 h0
        cases e
    subst hm
    obtain rfl : zs = [] := List.eq_nil_of_length_eq_zero hr.1
    refine wpList_append_own_none hgd s x 22 hop W0.heap.size 5 i0 1 Tryd.underlying22 hi5 V L.length _ hs hout.1 hx ?_
    exact h V w (by simpa using hout) (World.grownBy.refl w _)
  | some ad =>
    refine wpList_append_own _ hgd s x 22 hop W0.heap.size 5 i0 (.int .u8 0) 1 1 Tryd.underlying22 hi5 hz0 hz1 hz2 rfl (by decide) V L.length (L.map (Value.int .u8)) hs hout.1 ad m c (zs.map (Value.int .u8)) hx (by rw [List.length_map, hr.1, Nat.mul_one]) hr.cells ?_ (by unfold maxLen; omega) (by omega) hout.2.size ?_
    · intro u hu
      obtain ⟨_, _, rfl⟩ := List.mem_map.1 hu
      rfl
    · intro V' w' hown hg _
      refine h V' w' ⟨?_, hout.2.grown hg hout.2.size (fun k hk => (hout.1.lt k hk).1)⟩ hg
      rw [List.length_append, hr.1, List.map_append]
      exact hown
/-- A row of bytes does not lie in a Hash's block. -/
theorem own_apart {W0 w : World} {V : Value} {L M : List Int} {g : Nat} (h : Out W0 w V L) (k : Holds w g M) : V.ownBlock ≠ some g := by
  obtain ⟨rs, _, _, _, hb⟩ := k
  intro e
  rcases h.1.2 with ⟨rfl, _⟩ | ⟨g', cap, cur, rfl, _, hg, _⟩
  · simp [Value.ownBlock] at e
  · simp [Value.ownBlock] at e
    subst e
    unfold HBlk Blk at hb
    rw [hb] at hg
    injection hg with hg
    injection hg with _ ht
    cases ht
theorem Out.keptBy {W0 w w' : World} {V : Value} {L M : List Int} {g : Nat} (h : Out W0 w V L) (k : Holds w g M) (hg : w.grownBy w' (some g)) (hW : W0.heap.size ≤ g) : Out W0 w' V L :=
  ⟨h.1.kept hg (.inr (own_apart h k)), h.2.grown hg h.2.size (fun j e => by simp at e; omega)⟩

set_option maxHeartbeats 1000000 in
set_option maxRecDepth 100000 in
theorem parts_walk (a : Option Addr) (n ca : Nat) (w : World) (hp : PartsIn w a n) (hn : n ≤ maxLen) (ht : Tab w) :
    Calls Tryd.prog 4 #[.slice a n ca] w fun e w' => e = .returned (.bool true) ∧ Below w.heap.size w w' := by
  have AW := Lib.hid (awake_any w ht)
  have PI := Lib.hid hp
  have TA := Lib.hid ht
  have h2 := ht.1
  clear hp ht
  go_enter Tryd.func4, Tryd.ntmps4
  go_wp2_with fail
  refine AW.out.mono ?_
  rintro e w1 ⟨rfl, hb1⟩
  have B1 := Lib.hid hb1
  have T1 := Lib.hid (TA.out.below hb1)
  have lt1 : w.heap.size ≤ w1.heap.size := hb1.size
  clear hb1 AW
  go_wp2_with fail
  refine (new_any w1 T1.out).mono ?_
  rintro e w2 ⟨rfl, hw2⟩
  have H2 : Hid (Holds w2 w1.heap.size []) := by rw [hw2]; exact Lib.hid (new_holds w1)
  have B2 : Hid (Below w.heap.size w w2) := by rw [hw2]; exact Lib.hid (B1.out.alloc B1.out.size _)
  clear hw2
  generalize hg : w1.heap.size = g at *
  have HG := Lib.hid hg
  clear hg B1 T1
  by_cases q1 : 40 < n
  · have t1 : decide ((40 : Int) < (n : Int)) = true := by simp; omega
    go_wp2_with fail
    go_ret
    exact ⟨rfl, B2.out⟩
  have t1 : decide ((40 : Int) < (n : Int)) = false := by simp; omega
  have O2 : Hid (Out w w2 (.slice none 0 0) []) := Lib.hid ⟨⟨rfl, .inl ⟨rfl, rfl⟩⟩, B2.out⟩
  go_wp2_with fail
  go_loopw [5, 6] (fun V i wr => ∃ (k : Nat) (L : List Int), k ≤ n ∧ i = .int .i64 (k : Int) ∧ L.length ≤ 300 * k ∧ (∀ x ∈ L, 0 ≤ x ∧ x ≤ 255) ∧ Out w wr V L ∧ Holds wr g L) (fun _ i _ => (41 - intOf i).toNat)
  case atStart => exact ⟨0, [], by omega, rfl, by simp, by simp, O2.out, H2.out⟩
  case round =>
    obtain ⟨k, L, hk, rfl, hL, hLb, hout, hhol⟩ := hrel
    have OB := Lib.hid hout
    have HO := Lib.hid hhol
    have LB := Lib.hid hLb
    obtain ⟨va, vc, rfl⟩ := hout.shape
    clear hout hhol hLb O2 H2
    by_cases hk2 : k < n
    · have t0 : decide ((k : Int) < (n : Int)) = true := by simp; omega
      have kI : (k : Int) < (n : Int) := by omega
      have kN : (0 : Int) ≤ (k : Int) := by omega
      obtain ⟨b, off, pa, pn, pc, zs, rfl, hb, hcell, hrow, hpc, hpn⟩ := PI.out.at k hk2
      have HR := Lib.hid hrow
      have HN := Lib.hid hpn
      have c1 := (OB.out.2.cell (p := ⟨b, off + k, none⟩) hb).trans hcell
      have hzn := hrow.1
      clear hrow hpn
      by_cases q2 : 300 < pn
      · have t2 : decide ((300 : Int) < (pn : Int)) = true := by simp; omega
        have BB := Lib.hid OB.out.2
        clear OB HO
        go_wp2_with fail
        go_ret
        exact ⟨rfl, BB.out⟩
      have t2 : decide ((300 : Int) < (pn : Int)) = false := by simp; omega
      have hLn : L.length + pn ≤ 12300 := by omega
      go_wp2_with fail
      refine (write_any g L pa pn pc zs wr HO.out (by omega) ⟨HR.out.below OB.out.2, fun h0 => by
        obtain ⟨b', o', e, hb', _⟩ := HR.out.2.2 h0
        exact ⟨b', o', e, by omega⟩⟩ hpc (TA.out.below OB.out.2) (by omega)).mono ?_
      rintro e w3 ⟨rfl, hh3, hg3⟩
      have H3 := Lib.hid hh3
      have O3 := Lib.hid (OB.out.keptBy HO.out hg3 lt1)
      have c3 := (O3.out.2.cell (p := ⟨b, off + k, none⟩) hb).trans hcell
      have R3 := Lib.hid (HR.out.below O3.out.2)
      have HLN : Hid (L.length + pn ≤ 1000000) := Lib.hid (by omega)
      clear hh3 hg3 OB HO c1
      go_wp2_with (at_builtin; go_must (refine out_append_by (W0 := w) (L := L) (zs := zs) rfl _ _ rfl rfl O3.out rfl R3.out HN.out HLN.out ?_; intro V4 w4 ho4 hg4; have O4 := Lib.hid ho4; have G4 := Lib.hid hg4; clear ho4 hg4))
      have H4 : Hid (Holds w4 g (L ++ zs)) := Lib.hid (H3.out.kept (G4.out.block g H3.out.lt (fun e => own_apart O3.out H3.out e.symm)))
      obtain ⟨va4, vc4, rfl⟩ := O4.out.shape
      have LB4 : Hid (∀ x ∈ L ++ zs, 0 ≤ x ∧ x ≤ 255) := Lib.hid (fun x hx => by
        rcases List.mem_append.1 hx with hx | hx
        · exact LB.out x hx
        · exact HR.out.2.1 x hx)
      obtain ⟨va', vc', hve, hrow4⟩ := O4.out.row LB4.out
      injection hve with hve1 _ hve2
      subst hve1 hve2
      have R4 := Lib.hid hrow4
      have hcap4 := own_cap O4.out.1
      have hl4 : (L ++ zs).length ≤ 300 * (k + 1) := by rw [List.length_append]; omega
      clear hrow4 O3 H3 G4 R3 HLN c3 LB
      generalize L ++ zs = M at *
      have EQ : ∀ W : World, (Op.equalIn 10000 24 (.agg (bcells (hashZ M))) (.agg (bcells (hashZ M)))).run Tryd.prog W = .ok true W := fun W => same_hash (hashZ M) W
      have CS := Lib.hid (fun W (hh : Holds W g M) (ht : Tab W) => sum_any g M W hh ht (by omega))
      have CO := Lib.hid (fun W (hr : Row W va4 M.length M) (ht : Tab W) => of_any va4 M.length vc4 M W hr hcap4 (by omega) ht)
      generalize hashZ M = hz at *
      have B4 := Lib.hid O4.out.2
      go_wp2_with fail
      refine (CS.out w4 H4.out (TA.out.below B4.out)).mono ?_
      rintro e w5 ⟨rfl, hb5⟩
      have B5 := Lib.hid (Below.step B4.out hb5)
      have H5 := Lib.hid (H4.out.below hb5)
      have O5 := Lib.hid (O4.out.below hb5)
      have R5 := Lib.hid (R4.out.below hb5)
      clear hb5 H4 O4 R4 B4
      go_wp2_with fail
      refine (CO.out w5 R5.out (TA.out.below B5.out)).mono ?_
      rintro e w6 ⟨rfl, hb6⟩
      have B6 := Lib.hid (Below.step B5.out hb6)
      have H6 := Lib.hid (H5.out.below hb6)
      have O6 := Lib.hid (O5.out.below hb6)
      clear hb6 H5 O5 R5 B5 CO
      go_wp2_with fail
      refine (CS.out w6 H6.out (TA.out.below B6.out)).mono ?_
      rintro e w7 ⟨rfl, hb7⟩
      have B7 := Lib.hid (Below.step B6.out hb7)
      have H7 := Lib.hid (H6.out.below hb7)
      have O7 := Lib.hid (O6.out.below hb7)
      clear hb7 H6 O6 B6
      go_wp2_with fail
      refine (CS.out w7 H7.out (TA.out.below B7.out)).mono ?_
      rintro e w8 ⟨rfl, hb8⟩
      have H8 := Lib.hid (H7.out.below hb8)
      have O8 := Lib.hid (O7.out.below hb8)
      clear hb8 H7 O7 B7 CS
      go_wp2_with fail
      go_roundw
      case rel => exact ⟨k + 1, M, by omega, by first | rfl | go_num, hl4, LB4.out, O8.out, H8.out⟩
      case measure => simp only [intOf]; omega
    · have t0 : decide ((k : Int) < (n : Int)) = false := by simp; omega
      have EQ : ∀ W : World, (Op.equalIn 10000 24 (.agg (bcells (hashZ L))) (.agg (bcells (hashZ L)))).run Tryd.prog W = .ok true W := fun W => same_hash (hashZ L) W
      obtain ⟨va', vc', hve, hrow4⟩ := OB.out.row LB.out
      injection hve with hve1 _ hve2
      subst hve1 hve2
      have R4 := Lib.hid hrow4
      have hcap4 := own_cap OB.out.1
      have CS := Lib.hid (fun W (hh : Holds W g L) (ht : Tab W) => sum_any g L W hh ht (by omega))
      have CO := Lib.hid (fun W (hr : Row W va L.length L) (ht : Tab W) => of_any va L.length vc L W hr hcap4 (by omega) ht)
      have B4 := Lib.hid OB.out.2
      generalize hashZ L = hz at *
      clear hrow4 OB
      go_wp2_with fail
      refine (CS.out wr HO.out (TA.out.below B4.out)).mono ?_
      rintro e w5 ⟨rfl, hb5⟩
      have B5 := Lib.hid (Below.step B4.out hb5)
      have R5 := Lib.hid (R4.out.below hb5)
      clear hb5 R4 B4 CS HO
      go_wp2_with fail
      refine (CO.out w5 R5.out (TA.out.below B5.out)).mono ?_
      rintro e w6 ⟨rfl, hb6⟩
      have B6 := Lib.hid (Below.step B5.out hb6)
      clear hb6 R5 B5 CO
      go_wp2_with fail
      go_ret
      exact ⟨rfl, B6.out⟩

end Go.Proofs.YtgldoppcillljaaDoor
