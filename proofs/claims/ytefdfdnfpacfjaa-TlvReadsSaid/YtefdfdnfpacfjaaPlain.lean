/-
  Plain facts on elements as trees: their weight, sizes, depth and bytes, for stage 4 (tlv). Nothing of the program is named here.
-/
import Derived.Test.YtefdfdnfpacfjaaWeigh
namespace Go.Proofs.Ytefdfdnfpacfjaa
open Go.RowKit

/- The plain weight, and the depth. -/
mutual
def wt : T → Int
  | .node _ b ks => 1 + b.length + wtAll ks
def wtAll : List T → Int
  | [] => 0
  | x :: r => wt x + wtAll r
end
mutual
def dp : T → Int
  | .node _ _ ks => 1 + dpAll ks
def dpAll : List T → Int
  | [] => 0
  | x :: r => if dpAll r < dp x then dp x else dpAll r
end
theorem wt_eq (t : T) : wt t = 1 + t.body.length + wtAll t.kids := by
  obtain ⟨tag, b, ks⟩ := t
  rw [wt]
  rfl
theorem dp_eq (t : T) : dp t = 1 + dpAll t.kids := by
  obtain ⟨tag, b, ks⟩ := t
  rw [dp]
  rfl
theorem wtAll_ge (ks : List T) (h : ∀ k ∈ ks, 1 ≤ wt k) : 0 ≤ wtAll ks := by
  induction ks with
  | nil => rw [wtAll]; omega
  | cons k r ih =>
    rw [wtAll]
    have := h k (by simp)
    have := ih (fun x hx => h x (by simp [hx]))
    omega
theorem wt_ge (t : T) : 1 ≤ wt t := by
  refine T.each (p := fun t => 1 ≤ wt t) ?_ t
  intro t ih
  have := wtAll_ge t.kids ih
  rw [wt_eq]
  omega
theorem wtAll_pos (ks : List T) : 0 ≤ wtAll ks := wtAll_ge ks (fun k _ => wt_ge k)
theorem wtAll_mem {ks : List T} {k : T} (h : k ∈ ks) : wt k ≤ wtAll ks := by
  induction ks with
  | nil => simp at h
  | cons x r ih =>
    rw [wtAll]
    rcases List.mem_cons.1 h with rfl | h
    · have := wtAll_pos r
      omega
    · have := ih h
      have := wt_ge x
      omega
theorem dpAll_ge (ks : List T) : 0 ≤ dpAll ks := by
  induction ks with
  | nil => rw [dpAll]; omega
  | cons x r ih =>
    rw [dpAll]
    split <;> omega
theorem dpAll_mem {ks : List T} {k : T} (h : k ∈ ks) : dp k ≤ dpAll ks := by
  induction ks with
  | nil => simp at h
  | cons x r ih =>
    rw [dpAll]
    rcases List.mem_cons.1 h with rfl | h
    · split <;> omega
    · have := ih h
      split <;> omega
theorem dpAll_le {ks : List T} {b : Int} (h0 : 0 ≤ b) (h : ∀ k ∈ ks, dp k ≤ b) : dpAll ks ≤ b := by
  induction ks with
  | nil => rw [dpAll]; exact h0
  | cons x r ih =>
    rw [dpAll]
    have := h x (by simp)
    have := ih (fun y hy => h y (by simp [hy]))
    split <;> omega
theorem dp_ge (t : T) : 1 ≤ dp t := by
  rw [dp_eq]
  have := dpAll_ge t.kids
  omega

theorem weighAll_le (ks : List T) (deep : Nat) : ∀ a : Int, a ≤ weighAll ks deep a := by
  induction ks with
  | nil => intro a; rw [weighAll]; omega
  | cons k r ih =>
    intro a
    rw [weighAll]
    split
    · have := ih (a + weighT k (deep + 1))
      have := weigh_ge k (deep + 1)
      omega
    · omega
/-- What is light has its plain weight, and is not too deep. -/
theorem light_plain (t : T) : ∀ deep : Nat, weighT t deep < 30000 → weighT t deep = wt t ∧ dp t + deep ≤ 61 := by
  refine T.each (p := fun t => ∀ deep : Nat, weighT t deep < 30000 → weighT t deep = wt t ∧ dp t + deep ≤ 61) ?_ t
  intro t ih deep h
  rw [weighT_eq] at h ⊢
  have h60 : ¬ 60 < deep := by
    intro h'
    rw [if_pos h'] at h
    omega
  rw [if_neg h60] at h ⊢
  have hle := weighAll_le t.kids deep (1 + (if (t.body.length : Int) < 30000 then (t.body.length : Int) else 30000))
  have hb : (t.body.length : Int) < 30000 := by
    rcases (show (t.body.length : Int) < 30000 ∨ 30000 ≤ (t.body.length : Int) by omega) with h' | h'
    · exact h'
    · rw [if_neg (by omega)] at hle h
      omega
  rw [if_pos hb] at h ⊢
  have key : ∀ ks : List T, (∀ k ∈ ks, ∀ deep : Nat, weighT k deep < 30000 → weighT k deep = wt k ∧ dp k + deep ≤ 61) → ∀ a : Int, 0 ≤ a → weighAll ks deep a < 30000 → weighAll ks deep a = a + wtAll ks ∧ dpAll ks + 1 + deep ≤ 61 := by
    intro ks
    induction ks with
    | nil => intro _ a _ h; rw [weighAll, wtAll, dpAll]; omega
    | cons k r ihr =>
      intro hk a ha h
      rw [weighAll] at h ⊢
      by_cases h3 : a < 30000
      · rw [if_pos h3] at h ⊢
        have h4 := weighAll_le r deep (a + weighT k (deep + 1))
        have h5 := weigh_ge k (deep + 1)
        obtain ⟨e1, e2⟩ := hk k (by simp) (deep + 1) (by omega)
        obtain ⟨e3, e4⟩ := ihr (fun x hx => hk x (by simp [hx])) _ (by omega) h
        rw [wtAll, dpAll]
        refine ⟨by omega, ?_⟩
        split <;> omega
      · rw [if_neg h3] at h
        omega
  obtain ⟨e1, e2⟩ := key t.kids ih _ (by omega) h
  rw [wt_eq, dp_eq]
  omega
theorem light_wt {t : T} (h : lightT t = true) : wt t < 30000 ∧ dp t ≤ 61 := by
  unfold lightT at h
  have h' := of_decide_eq_true h
  have := light_plain t 0 h'
  omega

/- Tags. -/
def withinB (z : Int) : Bool := (z.tdiv 32).tmod 2 == 1
def tagB (z : Int) : Bool := decide (0 ≤ z) && (decide (z < 256) && (z % 32 != 31))

/- Lengths. -/
def lenLen (c : Int) : Int := if c < 128 then 1 else if c < 256 then 2 else 3
def lenB (c : Int) : List Int := if c < 128 then [c] else if c < 256 then [129, c] else [130, c / 256 % 256, c % 256]
theorem lenB_length (c : Int) : ((lenB c).length : Int) = lenLen c := by
  unfold lenB lenLen
  split
  · rfl
  · split <;> rfl
theorem lenB_byte {c : Int} (h0 : 0 ≤ c) : ∀ x ∈ lenB c, 0 ≤ x ∧ x ≤ 255 := by
  intro x hx
  unfold lenB at hx
  split at hx
  · have : x = c := by simpa using hx
    omega
  · split at hx
    · have : x = 129 ∨ x = c := by simpa using hx
      omega
    · have : x = 130 ∨ x = c / 256 % 256 ∨ x = c % 256 := by simpa using hx
      omega
theorem lenLen_range (c : Int) : 1 ≤ lenLen c ∧ lenLen c ≤ 3 := by
  unfold lenLen
  split
  · omega
  · split <;> omega

/- Sizes. -/
mutual
def bytesT : T → Int
  | .node t b ks => (if withinB t then bytesAll ks else b.length) + 1 + lenLen (if withinB t then bytesAll ks else b.length)
def bytesAll : List T → Int
  | [] => 0
  | x :: r => bytesT x + bytesAll r
end
mutual
def manyT : T → Int
  | .node t _ ks => 1 + (if withinB t then manyAll ks else 0)
def manyAll : List T → Int
  | [] => 0
  | x :: r => manyT x + manyAll r
end
mutual
def deepT : T → Int
  | .node t _ ks => (if withinB t then deepAll ks else 0) + 1
def deepAll : List T → Int
  | [] => 0
  | x :: r => if deepAll r < deepT x then deepT x else deepAll r
end
def inT (t : T) : Int := if withinB t.tag then bytesAll t.kids else t.body.length
theorem bytesT_eq (t : T) : bytesT t = inT t + 1 + lenLen (inT t) := by
  obtain ⟨tag, b, ks⟩ := t
  rw [bytesT]
  rfl
theorem manyT_eq (t : T) : manyT t = 1 + (if withinB t.tag then manyAll t.kids else 0) := by
  obtain ⟨tag, b, ks⟩ := t
  rw [manyT]
  rfl
theorem deepT_eq (t : T) : deepT t = (if withinB t.tag then deepAll t.kids else 0) + 1 := by
  obtain ⟨tag, b, ks⟩ := t
  rw [deepT]
  rfl

/-- Sizes are bounded by the weight. -/
theorem size_le (t : T) : 2 ≤ bytesT t ∧ bytesT t ≤ 5 * wt t ∧ 1 ≤ manyT t ∧ manyT t ≤ wt t ∧ 1 ≤ deepT t ∧ deepT t ≤ wt t := by
  refine T.each (p := fun t => 2 ≤ bytesT t ∧ bytesT t ≤ 5 * wt t ∧ 1 ≤ manyT t ∧ manyT t ≤ wt t ∧ 1 ≤ deepT t ∧ deepT t ≤ wt t) ?_ t
  intro t ih
  have key : ∀ ks : List T, (∀ t ∈ ks, 2 ≤ bytesT t ∧ bytesT t ≤ 5 * wt t ∧ 1 ≤ manyT t ∧ manyT t ≤ wt t ∧ 1 ≤ deepT t ∧ deepT t ≤ wt t) →
      0 ≤ bytesAll ks ∧ bytesAll ks ≤ 5 * wtAll ks ∧ 0 ≤ manyAll ks ∧ manyAll ks ≤ wtAll ks ∧ 0 ≤ deepAll ks ∧ deepAll ks ≤ wtAll ks := by
    intro ks
    induction ks with
    | nil => intro _; simp only [bytesAll, manyAll, deepAll, wtAll]; omega
    | cons k r ihr =>
      intro h
      have h1 := h k (by simp)
      have h2 := ihr (fun x hx => h x (by simp [hx]))
      simp only [bytesAll, manyAll, deepAll, wtAll]
      have h3 := wt_ge k
      refine ⟨by omega, by omega, by omega, by omega, ?_, ?_⟩ <;> split <;> omega
  have h := key t.kids ih
  have hl := lenLen_range (inT t)
  have hi : 0 ≤ inT t ∧ inT t ≤ t.body.length + 5 * wtAll t.kids := by
    unfold inT
    split <;> omega
  have hp := wtAll_pos t.kids
  rw [bytesT_eq, manyT_eq, deepT_eq, wt_eq]
  refine ⟨by omega, by omega, ?_, ?_, ?_, ?_⟩ <;> (try split) <;> omega
theorem bytesAll_range (ks : List T) : 0 ≤ bytesAll ks ∧ bytesAll ks ≤ 5 * wtAll ks ∧ 0 ≤ manyAll ks ∧ manyAll ks ≤ wtAll ks ∧ 0 ≤ deepAll ks ∧ deepAll ks ≤ wtAll ks := by
  induction ks with
  | nil => simp only [bytesAll, manyAll, deepAll, wtAll]; omega
  | cons k r ih =>
    have h1 := size_le k
    simp only [bytesAll, manyAll, deepAll, wtAll]
    refine ⟨by omega, by omega, by omega, by omega, ?_, ?_⟩ <;> split <;> omega
theorem inT_range (t : T) : 0 ≤ inT t ∧ inT t ≤ 5 * wt t := by
  have h := bytesAll_range t.kids
  have := wtAll_pos t.kids
  rw [wt_eq]
  unfold inT
  split <;> omega

end Go.Proofs.Ytefdfdnfpacfjaa
