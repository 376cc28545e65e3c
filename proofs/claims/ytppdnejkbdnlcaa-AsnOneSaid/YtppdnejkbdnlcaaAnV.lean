/-
  slices.SortFunc at ranges, for stage 12 (asn): whatever orders them by a key.
-/
import Derived.Test.YtppdnejkbdnlcaaAnC
import Derived.Test.YtppdnejkbdnlcaaShelf
import Derived.Shelf.SlSortCmp.NoneTotal
namespace Go.Proofs.Ytppdnejkbdnlcaa
open Go.RowKit
set_option linter.unusedVariables false

section
variable {cz : Rg6 → Rg6 → Int} {key : Nat × Nat → Nat}
theorem lessR (hk : ∀ x y, cz x y < 0 ↔ key x.1 < key y.1) (x y : Rg6) : ltOf cz x y = decide (key x.1 < key y.1) := by
  unfold ltOf
  rw [Bool.eq_iff_iff, decide_eq_true_iff, decide_eq_true_iff]
  exact hk x y
theorem swoR (hk : ∀ x y, cz x y < 0 ↔ key x.1 < key y.1) : Sort.SWO (ltOf cz) where
  irrefl x := by rw [lessR hk]; simp
  trans x y z h1 h2 := by rw [lessR hk] at *; simp at *; omega
  ntrans x y z h1 h2 := by rw [lessR hk] at *; simp at *; omega
/-- They rise. -/
def RiseR (key : Nat × Nat → Nat) (L : List (Nat × Nat)) : Prop := L.Pairwise (fun a b => key a ≤ key b)
theorem riseR_of (hk : ∀ x y, cz x y < 0 ↔ key x.1 < key y.1) {d : Array Rg6} (h : Sort.SortedIn (ltOf cz) 0 d.size d) : RiseR key (bareR d) := by
  unfold RiseR
  rw [List.pairwise_iff_getElem]
  intro i j hi hj hij
  rw [bareR_len] at hi hj
  have := h i j (Nat.zero_le _) hij hj
  rw [lessR hk] at this
  rw [bareR_at d i hi, bareR_at d j hj]
  have := of_decide_eq_false this
  omega
theorem permR_of {d d' : Array Rg6} (h : Sort.PermIn 0 d.size d d') : (bareR d').Perm (bareR d) := by
  have hp := h.2.2
  have e1 : d.extract 0 d.size = d := by simp
  have e2 : d'.extract 0 d.size = d' := by rw [← h.1]; simp
  rw [e1, e2] at hp
  exact hp.map _

set_option maxHeartbeats 1000000 in
theorem sortR_any (F : Nat) (hk : ∀ x y, cz x y < 0 ↔ key x.1 < key y.1) (eg : ∀ args w, (callFunc F args).run Try.prog w = .ok (.enter F args) w) (lays : ∀ blk off size w, CmpLays Try.prog F #[] encR 2 cz blk off size w) (W0 w : World) (V : Value) (L : List (Nat × Nat)) (ho : RgOut W0 w V L) (hl : L.length ≤ 90000) :
    Calls Try.prog 23 #[V, .func (.func F) #[] #[]] w fun e w' => e = .returned (.tuple #[]) ∧ ∃ L', L'.Perm L ∧ RiseR key L' ∧ RgOut W0 w' V L' := by
  rcases ho.form with ⟨rfl, rfl⟩ | ⟨g, cap, rfl, hg0, hg1, hcap⟩
  · have hcon := AnyF.slices_SortFunc_none { Try.laysF6 with } none 0 (.func (.func F) #[] #[]) w
    refine Calls.mono hcon ?_
    rintro e w' ⟨he, rfl⟩
    exact ⟨he, [], List.Perm.refl _, List.Pairwise.nil, ho⟩
  · have hd := bareR_with L ho.2.2
    have hsz := withR_size L ho.2.2
    generalize withR L ho.2.2 = d at hd hsz
    subst hd
    rw [bareR_len] at hl
    have aE : ∀ w, (isAgg 33).run Try.prog w = .ok true w := fun w => by simp [isAgg, run_underlying Try.underlying33]
    have zE : ∀ w, (Go.sizeOf 33).run Try.prog w = .ok 2 w := fun w => by kernel_rfl
    have hcon := AnyQ.slices_SortFunc Try.laysF6 2 aE zE encR encR_len encR_one cz (swoR hk) F #[] g 0 cap d w eg (lays g 0 d.size w) (ho.holds (bareR_len d)) hg1 (by omega)
    rw [← bareR_len d] at hcon
    refine Calls.mono hcon ?_
    rintro e w' ⟨he, d', n, os, hp, hs, rfl⟩
    rw [bareR_len] at hp hs
    refine ⟨he, bareR d', permR_of hp, riseR_of hk (by rw [hp.1]; exact hs), ho.sorted (bareR_len d) hp.1⟩
end

end Go.Proofs.Ytppdnejkbdnlcaa
