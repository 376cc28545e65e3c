/-
  Plain facts on base64 and on a row of bytes that is appended to, for stage 2 (radix). What Encode answers, as a function on lists.
-/
import Derived.Test.YtmmcmiljnmbfcaaDoorBits
import Derived.Laws.AppendOwn
import Derived.Laws.OwnMore
import Derived.OwnWalk
namespace Go.Proofs.YtmmcmiljnmbfcaaDoor
open Go.RowKit

def sgZ (v : Int) : Int := (sg v.toNat : Int)

/-- The j-th letter of a group of m bytes with the bits n. -/
def grp (n : Int) (m j : Nat) : Int := if m < j then 61 else sgZ (n / 2 ^ (18 - 6 * j) % 64)
def enc3 (g : List Int) : List Int := [grp (bitsN g) g.length 0, grp (bitsN g) g.length 1, grp (bitsN g) g.length 2, grp (bitsN g) g.length 3]

/-- Encode's answer, as the numbers of its letters. -/
def encZ : List Int → List Int
  | [] => []
  | [x] => enc3 [x]
  | [x, y] => enc3 [x, y]
  | x :: y :: z :: r => enc3 [x, y, z] ++ encZ r

theorem encZ_append : ∀ (k : Nat) (xs ys : List Int), xs.length = 3 * k → encZ (xs ++ ys) = encZ xs ++ encZ ys
  | 0, xs, ys, h => by
    have : xs = [] := List.eq_nil_of_length_eq_zero (by omega)
    subst this
    rfl
  | k + 1, xs, ys, h => by
    match xs, h with
    | x :: y :: z :: r, h =>
      have := encZ_append k r ys (by simp at h; omega)
      simp [encZ, this]
    | [], h => simp at h
    | [x], h => simp at h; omega
    | [x, y], h => simp at h; omega

theorem encZ_short (g : List Int) (h0 : 0 < g.length) (h : g.length ≤ 3) : encZ g = enc3 g := by
  match g, h0, h with
  | [x], _, _ => rfl
  | [x, y], _, _ => rfl
  | [x, y, z], _, _ => simp [encZ]
  | _ :: _ :: _ :: _ :: _, _, h => simp at h

theorem encZ_length : ∀ (k : Nat) (xs : List Int), xs.length ≤ k → (encZ xs).length = (xs.length + 2) / 3 * 4
  | _, [], _ => rfl
  | _, [x], _ => by simp [encZ, enc3]
  | _, [x, y], _ => by simp [encZ, enc3]
  | 0, x :: y :: z :: r, h => by simp at h
  | k + 1, x :: y :: z :: r, h => by
    have := encZ_length k r (by simp at h; omega)
    simp [encZ, enc3, this]
    omega

/-- The group that begins at 3 k. -/
def grpAt (zs : List Int) (k : Nat) : List Int := (zs.drop (3 * k)).take 3

theorem encZ_take {zs : List Int} {k : Nat} (h : 3 * k < zs.length) : encZ (zs.take (3 * (k + 1))) = encZ (zs.take (3 * k)) ++ enc3 (grpAt zs k) := by
  have e : zs.take (3 * (k + 1)) = zs.take (3 * k) ++ grpAt zs k := by
    rw [grpAt, show 3 * (k + 1) = 3 * k + 3 by omega, List.take_add]
  rw [e, encZ_append k _ _ (by rw [List.length_take]; omega), encZ_short (grpAt zs k) (by simp [grpAt]; omega) (by simp [grpAt]; omega)]

theorem sgZ_byte (v : Int) : 0 ≤ sgZ v ∧ sgZ v ≤ 255 ∨ 64 ≤ v.toNat := by
  unfold sgZ sg
  repeat' split
  all_goals omega

theorem grp_byte {n : Int} (m j : Nat) : 0 ≤ grp n m j ∧ grp n m j ≤ 255 := by
  unfold grp
  split
  · omega
  · generalize n / 2 ^ (18 - 6 * j) = q
    rcases sgZ_byte (q % 64) with h | h
    · exact h
    · omega

theorem enc3_byte (g : List Int) : ∀ x ∈ enc3 g, 0 ≤ x ∧ x ≤ 255 := by
  intro x hx
  simp only [enc3, List.mem_cons, List.not_mem_nil, or_false] at hx
  rcases hx with rfl | rfl | rfl | rfl <;> exact grp_byte _ _

theorem encZ_byte : ∀ (k : Nat) (xs : List Int), xs.length ≤ k → ∀ x ∈ encZ xs, 0 ≤ x ∧ x ≤ 255
  | _, [], _ => by simp [encZ]
  | _, [x], _ => enc3_byte _
  | _, [x, y], _ => enc3_byte _
  | 0, x :: y :: z :: r, h => by simp at h
  | k + 1, x :: y :: z :: r, h => by
    intro v hv
    rw [encZ, List.mem_append] at hv
    rcases hv with hv | hv
    · exact enc3_byte _ v hv
    · exact encZ_byte k r (by simp at h; omega) v hv

/-- The slice V is the call's own, in memory newer than W0, and reads as the bytes L. -/
def Out (W0 wr : World) (V : Value) (L : List Int) : Prop := wr.ownsRow W0.heap.size 5 1 V L.length (L.map (Value.int .u8)) ∧ Below W0.heap.size W0 wr

theorem Out.below {W0 wr w' : World} {V : Value} {L : List Int} (h : Out W0 wr V L) (hb : Below wr.heap.size wr w') : Out W0 w' V L := by
  refine ⟨⟨h.1.1, ?_⟩, h.2.trans (hb.mono h.2.size)⟩
  rcases h.1.2 with h' | ⟨g, cap, cur, e, h1, h2, h3⟩
  · exact .inl h'
  · exact .inr ⟨g, cap, cur, e, h1, (hb.block g (Array.getElem?_eq_some_iff.1 h2).1).trans h2, h3⟩

theorem Out.app {W0 wr w1 : World} {V V' : Value} {L : List Int} {x : Int} {o : Obj} (h : Out W0 wr V L) (h1 : w1.ownsRow W0.heap.size 5 1 V' (L.length + 1) (L.map (Value.int .u8) ++ [.int .u8 x])) (hg : (wr.alloc o).grownBy w1 V.ownBlock) : Out W0 w1 V' (L ++ [x]) := by
  refine ⟨by rw [List.length_append, List.map_append]; exact h1, ?_⟩
  exact (h.2.alloc h.2.size o).grown hg (by have := h.2.size; simp; omega) (fun k hk => (h.1.lt k hk).1)

theorem Out.row {W0 wr : World} {V : Value} {L : List Int} (h : Out W0 wr V L) (hL : ∀ x ∈ L, 0 ≤ x ∧ x ≤ 255) : ∃ a c, V = .slice a L.length c ∧ Row wr a L.length L := by
  rcases h.1.2 with ⟨rfl, h0⟩ | ⟨g, cap, cur, rfl, _⟩
  · have : L = [] := List.eq_nil_of_length_eq_zero h0
    subst this
    exact ⟨none, 0, rfl, Row.nil _ _⟩
  · exact ⟨_, cap, rfl, Row.of_own h.1 hL⟩

theorem Out.made {W0 : World} (c : Nat) (hc : c ≤ 1000000) : Out W0 (W0.alloc (.cells (madeCells #[.int .u8 0] c) 5)) (.slice (some ⟨W0.heap.size, 0, none⟩) 0 c) [] :=
  ⟨World.ownsRow_made W0 _ c (Nat.le_refl _) (by unfold maxLen; omega) (by rw [size_madeCells]; simp), (Below.refl _ _).alloc (Nat.le_refl _) _⟩

end Go.Proofs.YtmmcmiljnmbfcaaDoor
