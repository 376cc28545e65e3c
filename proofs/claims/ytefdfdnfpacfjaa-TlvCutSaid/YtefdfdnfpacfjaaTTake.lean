/-
  What the package's source.take and tooShort do, for stage 4 (tlv).
-/
import Derived.Test.YtefdfdnfpacfjaaTApp
import Derived.Test.YtefdfdnfpacfjaaParse
namespace Go.Proofs.Ytefdfdnfpacfjaa
open Go.RowKit
set_option linter.unusedVariables false

/-- A panic with an error's number. -/
def errP (z : Int) : List PanicEntry := [{ v := .iface 27 (.int .i64 z), recovered := false }]
/-- Within an element each ErrShort is ErrForm. -/
def norm (lvl : Nat) (z : Int) : Int := if 0 < lvl ∧ z = 3 then 2 else z

/-- The source's block: the bytes that are not yet read, and how deep they lie. -/
def Rest (w : World) (gs lvl Bd : Nat) (zs : List Int) : Prop :=
  ∃ (A : Option Addr) (c : Nat), Blk w gs 49 #[.slice A zs.length c, .int .i64 (lvl : Int)] ∧ Row w A zs.length zs ∧ zs.length ≤ c ∧ (0 < zs.length → ∃ b off, A = some ⟨b, off, none⟩ ∧ b < Bd) ∧ Bd ≤ gs ∧ (A = none → c = 0)
theorem Rest.below {w w' : World} {gs lvl Bd : Nat} {zs : List Int} (h : Rest w gs lvl Bd zs) (hb : Below w.heap.size w w') : Rest w' gs lvl Bd zs := by
  obtain ⟨A, c, h1, h2, h3, h4, h5⟩ := h
  exact ⟨A, c, h1.below hb h1.lt, h2.below hb, h3, h4, h5⟩
/-- The bytes and the source's block alone matter. -/
theorem Rest.keep {w w' : World} {gs lvl Bd : Nat} {zs : List Int} (h : Rest w gs lvl Bd zs) (hs : w.heap.size ≤ w'.heap.size) (hk : ∀ b, b < w.heap.size → (b = gs ∨ b < Bd) → w'.heap[b]? = w.heap[b]?) : Rest w' gs lvl Bd zs := by
  obtain ⟨A, c, h1, h2, h3, h4, h5⟩ := h
  refine ⟨A, c, (hk gs h1.lt (.inl rfl)).trans h1, ⟨h2.1, h2.2.1, fun h0 => ?_⟩, h3, h4, h5⟩
  obtain ⟨b, off, e, hb, hcell⟩ := h2.2.2 h0
  obtain ⟨b', off', e', hb'⟩ := h4 h0
  rw [e] at e'
  obtain ⟨rfl, rfl⟩ : b = b' ∧ off = off' := by simpa using e'
  refine ⟨b, off, e, by omega, fun i hi => ?_⟩
  rw [← hcell i hi]
  simp only [World.cell?, hk b hb (.inr hb')]

theorem Row.rest {w : World} {a : Option Addr} {n : Nat} {zs : List Int} (h : Row w a n zs) (k c : Nat) (hk : k ≤ n) (hc : n ≤ c) : Row w (if c = k then a else a.map (·.add k)) (n - k) (zs.drop k) := by
  refine ⟨by rw [List.length_drop, h.1], fun x hx => h.2.1 x (List.mem_of_mem_drop hx), fun h0 => ?_⟩
  obtain ⟨b, off, e, hb, hcell⟩ := h.2.2 (by omega)
  subst e
  rw [if_neg (by omega)]
  refine ⟨b, off + k, by rw [Option.map_some, Addr.add_lit], hb, fun i hi => ?_⟩
  rw [Nat.add_assoc, hcell (k + i) (by omega), List.getElem?_drop]
theorem Row.set {w : World} {a : Option Addr} {n : Nat} {zs : List Int} (h : Row w a n zs) (g j : Nat) (v : Value) (hne : 0 < n → ∃ b off, a = some ⟨b, off, none⟩ ∧ b ≠ g) : Row (w.setCell ⟨g, j, none⟩ v) a n zs := by
  refine ⟨h.1, h.2.1, fun h0 => ?_⟩
  obtain ⟨b, off, e, hb, hcell⟩ := h.2.2 h0
  obtain ⟨b', off', e', hb'⟩ := hne h0
  rw [e] at e'
  obtain ⟨rfl, rfl⟩ : b = b' ∧ off = off' := by simpa using e'
  refine ⟨b, off, e, by simpa using hb, fun i hi => ?_⟩
  rw [← hcell i hi]
  simp only [World.cell?, heap_setCell_other w ⟨g, j, none⟩ b v hb']
theorem grown_set (w : World) (g j : Nat) (v : Value) : w.grownBy (w.setCell ⟨g, j, none⟩ v) (some g) :=
  ⟨rfl, rfl, rfl, by simp, fun k _ hk => heap_setCell_other w ⟨g, j, none⟩ k v (fun e => hk (by rw [e]))⟩

set_option maxHeartbeats 400000 in
theorem tooShort_any (gs lvl : Nat) (v : Value) (w : World) (hl : lvl ≤ 100) (hb : Blk w gs 49 #[v, .int .i64 (lvl : Int)]) : Calls Try.prog 41 #[.pointer (some ⟨gs, 0, none⟩)] w fun e w' => e = .returned (.int .i64 (norm lvl 3)) ∧ w = w' := by
  have c1 := hb.cell 1
  simp only [List.getElem?_toArray, List.getElem?_cons_succ, List.getElem?_cons_zero] at c1
  clear hb
  by_cases h0 : 0 < lvl
  · have F : Hid (norm lvl 3 = 2) := by simp [norm, h0, Hid]
    go_enter Try.func41, Try.ntmps41
    go_wp2_with fail
    go_ret
    exact ⟨ret_int F.out.symm, rfl⟩
  · have F : Hid (norm lvl 3 = 3) := by simp [norm, h0, Hid]
    go_enter Try.func41, Try.ntmps41
    go_wp2_with fail
    go_ret
    exact ⟨ret_int F.out.symm, rfl⟩

/-- What take answers where there are enough bytes. -/
def GivesTake (gs lvl Bd k : Nat) (zs : List Int) (w : World) (e : Ending) (w' : World) : Prop :=
  ∃ (A : Option Addr) (c : Nat), e = .returned (.slice A k c) ∧ Row w' A k (zs.take k) ∧ k ≤ c ∧ (0 < k → ∃ b off, A = some ⟨b, off, none⟩ ∧ b < Bd) ∧ (A = none → c = 0) ∧ Rest w' gs lvl Bd (zs.drop k) ∧ w.grownBy w' (some gs)

set_option maxHeartbeats 400000 in
theorem take_short (gs lvl Bd k : Nat) (zs : List Int) (w : World) (hl : lvl ≤ 100) (hr : Rest w gs lvl Bd zs) (hn : zs.length ≤ 30000) (hk : zs.length < k) (hk2 : k ≤ 100000) :
    Calls Try.prog 36 #[.pointer (some ⟨gs, 0, none⟩), .int .i64 (k : Int)] w fun e w' => e = .panicked (errP (norm lvl 3)) ∧ w = w' := by
  obtain ⟨A, c, hb, hrow, hc, _⟩ := hr
  have c0 := hb.cell 0
  simp only [List.getElem?_toArray, List.getElem?_cons_zero] at c0
  have HB := Lib.hid hb
  clear hb hrow
  go_enter Try.func36, Try.ntmps36
  go_wp2_with fail
  refine (tooShort_any gs lvl _ w hl HB.out).mono ?_
  rintro e w2 ⟨rfl, rfl⟩
  go_wp2_with fail
  exact ⟨rfl, rfl, rfl⟩

theorem gives_take {gs lvl Bd k c : Nat} {zs : List Int} {w : World} {A : Option Addr} (hb : Blk w gs 49 #[.slice A zs.length c, .int .i64 (lvl : Int)]) (hrow : Row w A zs.length zs) (hc : zs.length ≤ c) (hne : 0 < zs.length → ∃ b off, A = some ⟨b, off, none⟩ ∧ b < Bd) (hB : Bd ≤ gs) (hA : A = none → c = 0) (hk : k ≤ zs.length) :
    GivesTake gs lvl Bd k zs w (.returned (.slice A k c)) (w.setCell ⟨gs, 0, none⟩ (.slice (if c = k then A else A.map (·.add k)) (zs.length - k) (c - k))) := by
  have hne' : 0 < zs.length → ∃ b off, A = some ⟨b, off, none⟩ ∧ b ≠ gs := fun h => by
    obtain ⟨b, off, e, hb⟩ := hne h
    exact ⟨b, off, e, by omega⟩
  refine ⟨A, c, rfl, (hrow.first k hk).set gs 0 _ (fun h => hne' (by omega)), by omega, fun h => hne (by omega), hA, ⟨_, c - k, by rw [List.length_drop]; exact hb.set 0 _, ?_, by rw [List.length_drop]; omega, ?_, hB, ?_⟩, grown_set _ _ _ _⟩
  · rw [List.length_drop]
    refine (hrow.rest k c hk hc).set gs 0 _ (fun h => ?_)
    obtain ⟨b, off, e, hb⟩ := hne' (by omega)
    rw [if_neg (by omega), e]
    exact ⟨b, off + k, by rw [Option.map_some, Addr.add_lit], hb⟩
  · intro h
    rw [List.length_drop] at h
    obtain ⟨b, off, e, hb⟩ := hne (by omega)
    rw [if_neg (by omega), e]
    exact ⟨b, off + k, by rw [Option.map_some, Addr.add_lit], hb⟩
  · intro h
    have : A = none := by
      split at h
      · exact h
      · cases A with
        | none => rfl
        | some x => cases h
    rw [hA this]
    omega

set_option maxHeartbeats 800000 in
theorem take_ok (gs lvl Bd k : Nat) (zs : List Int) (w : World) (hr : Rest w gs lvl Bd zs) (hn : zs.length ≤ 30000) (hk : k ≤ zs.length) :
    Calls Try.prog 36 #[.pointer (some ⟨gs, 0, none⟩), .int .i64 (k : Int)] w (GivesTake gs lvl Bd k zs w) := by
  obtain ⟨A, c, hb, hrow, hc, hne, hB, hA⟩ := hr
  have c0 := hb.cell 0
  simp only [List.getElem?_toArray, List.getElem?_cons_zero] at c0
  have f0 := hb.free 0
  have HB := Lib.hid hb
  have HR := Lib.hid hrow
  have HN := Lib.hid hne
  have HA := Lib.hid hA
  clear hb hrow hne hA
  by_cases hck : c = k
  · have G := Lib.hid (gives_take (k := k) HB.out HR.out hc HN.out hB HA.out hk)
    rw [if_pos hck] at G
    subst hck
    rw [show zs.length - c = 0 by omega, Nat.sub_self] at G
    go_enter Try.func36, Try.ntmps36
    go_wp2_with fail
    go_ret
    exact G.out
  · have G := Lib.hid (gives_take (k := k) HB.out HR.out hc HN.out hB HA.out hk)
    rw [if_neg hck] at G
    go_enter Try.func36, Try.ntmps36
    go_wp2_with fail
    go_ret
    exact G.out

end Go.Proofs.Ytefdfdnfpacfjaa
