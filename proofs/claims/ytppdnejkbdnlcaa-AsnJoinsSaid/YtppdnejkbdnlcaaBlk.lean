/-
  Blocks known whole, worlds that go on, rows of the call's own: what every stage with byte slices wants. Nothing of the program is named here but the types.
-/
import Derived.Test.YtppdnejkbdnlcaaOut
import Derived.Test.YtppdnejkbdnlcaaOrd
import Derived.Test.YtppdnejkbdnlcaaRow
import Derived.Test.YtppdnejkbdnlcaaOpen
import Derived.Deep.QuietTactic
import Derived.BigQuiet
namespace Go.Proofs.Ytppdnejkbdnlcaa
open Go.RowKit
set_option linter.unusedVariables false

/-- Block g holds just these cells. -/
def Blk (w : World) (g : Nat) (t : TypeId) (cs : Array Value) : Prop := w.heap[g]? = some (.cells cs t (0, 0))
theorem Blk.lt {w : World} {g : Nat} {t : TypeId} {cs : Array Value} (h : Blk w g t cs) : g < w.heap.size := (Array.getElem?_eq_some_iff.1 h).1
theorem Blk.cell {w : World} {g : Nat} {t : TypeId} {cs : Array Value} (h : Blk w g t cs) (j : Nat) : w.cell? ⟨g, j, none⟩ = cs[j]? := by
  unfold Blk at h
  simp only [World.cell?, h]
  rfl
theorem Blk.free {w : World} {g : Nat} {t : TypeId} {cs : Array Value} (h : Blk w g t cs) (j : Nat) : w.frozen? ⟨g, j, none⟩ = false := by
  unfold Blk at h
  simp [World.frozen?, h]
theorem Blk.new (w : World) (t : TypeId) (cs : Array Value) : Blk (w.alloc (.cells cs t)) w.heap.size t cs := heap_alloc_new w _
theorem Blk.below {w w' : World} {g B : Nat} {t : TypeId} {cs : Array Value} (h : Blk w g t cs) (hb : Below B w w') (hg : g < B) : Blk w' g t cs := (hb.block g hg).trans h
theorem Blk.alloc {w : World} {g : Nat} {t : TypeId} {cs : Array Value} (h : Blk w g t cs) (o : Obj) : Blk (w.alloc o) g t cs := (Below.heap_alloc w o g h.lt).trans h
theorem Blk.set {w : World} {g : Nat} {t : TypeId} {cs : Array Value} (h : Blk w g t cs) (j : Nat) (v : Value) : Blk (w.setCell ⟨g, j, none⟩ v) g t (cs.setIfInBounds j v) := heap_setCell_same w g j cs t v h
theorem Blk.far {w : World} {g g' : Nat} {t : TypeId} {cs : Array Value} (h : Blk w g t cs) (hne : g ≠ g') (j : Nat) (v : Value) : Blk (w.setCell ⟨g', j, none⟩ v) g t cs := (heap_setCell_other w ⟨g', j, none⟩ g v hne).trans h
theorem Blk.drewN {w : World} {g : Nat} {t : TypeId} {cs : Array Value} (h : Blk w g t cs) (n : Nat) : Blk (w.drewN n) g t cs := h
theorem Below.step {w w1 w2 : World} (h : Below w.heap.size w w1) (k : Below w1.heap.size w1 w2) : Below w.heap.size w w2 := h.trans (k.mono h.size)
theorem drewN_below (w : World) (n : Nat) : Below w.heap.size w (w.drewN n) := ⟨rfl, rfl, rfl, Nat.le_refl _, fun _ _ => rfl⟩
theorem cell_later {wr : World} {b o : Nat} {v : Value} (h : wr.cell? ⟨b, o, none⟩ = some v) : ∀ W, Ext wr.drew W → W.cell? ⟨b, o, none⟩ = some v := by
  intro W hW
  have hb : b < wr.heap.size := by
    rcases Nat.lt_or_ge b wr.heap.size with h' | h'
    · exact h'
    · simp [World.cell?, Array.getElem?_eq_none h'] at h
  exact (hW.cell (p := ⟨b, o, none⟩) hb).trans h
theorem ret_bool {a b : Bool} (h : a = b) : Ending.returned (.bool a) = .returned (.bool b) := by rw [h]
theorem out_zero (w : World) : Out w (w.alloc (.cells #[] 5)) (.slice (some ⟨w.heap.size, 0, none⟩) 0 0) [] := by
  have h := Out.made (W0 := w) 0 (by omega)
  rw [show madeCells #[.int .u8 0] 0 = #[] by simp [madeCells]] at h
  exact h
theorem Out.wider {w W0 wr : World} {V : Value} {L : List Int} (h : Out W0 wr V L) (hb : Below w.heap.size w W0) : Out w wr V L := by
  refine ⟨⟨h.1.1, ?_⟩, Below.step hb h.2⟩
  rcases h.1.2 with h' | ⟨g, cap, cur, e, h1, h2⟩
  · exact .inl h'
  · exact .inr ⟨g, cap, cur, e, Nat.le_trans hb.size h1, h2⟩
/-- Bytes are appended to nothing. -/
theorem out_nil (w : World) : Out w w (.slice none 0 0) [] := ⟨⟨rfl, .inl ⟨rfl, rfl⟩⟩, Below.refl _ _⟩
/-- A row of bytes of the call's own that it hands back: new memory. -/
def GivesNew (zs : List Int) (w : World) (e : Ending) (w' : World) : Prop :=
  ∃ V, e = .returned V ∧ Out w w' V zs
theorem GivesNew.row {zs : List Int} {w w' : World} {e : Ending} (h : GivesNew zs w e w') (hb : ∀ x ∈ zs, 0 ≤ x ∧ x ≤ 255) : ∃ a c, e = .returned (.slice a zs.length c) ∧ Row w' a zs.length zs ∧ (a = none → c = 0) ∧ zs.length ≤ c ∧ Below w.heap.size w w' := by
  obtain ⟨V, rfl, ho⟩ := h
  obtain ⟨a, c, rfl, hr⟩ := ho.row hb
  refine ⟨a, c, rfl, hr, ?_, own_cap ho.1, ho.2⟩
  intro e
  subst e
  rcases ho.1.2 with ⟨e, _⟩ | ⟨g, cap, cur, e, _⟩
  · injection e
  · cases e
theorem Out.shape {W0 wr : World} {V : Value} {L : List Int} (h : Out W0 wr V L) : ∃ a c, V = .slice a L.length c := by
  rcases h.1.2 with ⟨rfl, h0⟩ | ⟨g, cap, cur, rfl, _⟩
  · exact ⟨none, 0, by rw [h0]⟩
  · exact ⟨_, _, rfl⟩
/-- A slice's length. -/
def lenS : Value → Nat
  | .slice _ m _ => m
  | _ => 0

end Go.Proofs.Ytppdnejkbdnlcaa
