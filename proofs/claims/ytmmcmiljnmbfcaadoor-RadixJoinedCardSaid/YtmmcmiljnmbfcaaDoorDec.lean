/-
  What Decode answers, as a function on lists, for stage 2 (radix): letters are read group by group.
-/
import Derived.Test.YtmmcmiljnmbfcaaDoorVals
import Derived.Test.YtmmcmiljnmbfcaaDoorPad
namespace Go.Proofs.YtmmcmiljnmbfcaaDoor
open Go.RowKit

/-- A letter's number; 64 where it is none. -/
def vlZ (c : Int) : Int := (vl c.toNat : Int)
theorem vlZ_range (c : Int) : 0 ≤ vlZ c ∧ vlZ c ≤ 64 := by
  have := vl_le c.toNat
  unfold vlZ
  omega

/-- The bits of a group's first j letters. -/
def acc (t : List Int) : Nat → Int
  | 0 => 0
  | j + 1 => acc t j + vlZ (t[j]?.getD 0) * 2 ^ (18 - 6 * j)

/-- The q-th of the three bytes of 24 bits. -/
def byteOf (N : Int) (q : Nat) : Int := N / 256 ^ (2 - q) % 256

def badT (t : List Int) : Bool := t.any fun c => vlZ c == 64
def grpBytes (t : List Int) : List Int := (List.range (t.length - 1)).map (byteOf (acc t t.length))

/-- The bytes of a group of two to four letters. -/
def grpD (t : List Int) : Option (List Int) := if badT t = true then none else if acc t t.length * 256 ^ (t.length - 1) % 16777216 = 0 then some (grpBytes t) else none

/-- Decode's answer, on letters without padding. -/
def decT : List Int → Option (List Int)
  | [] => some []
  | a :: r => match grpD ((a :: r).take 4) with
    | none => none
    | some g => (decT (r.drop 3)).map (fun zs => g ++ zs)
  termination_by l => l.length
  decreasing_by simp; omega

theorem decT_step {l : List Int} {k : Nat} (h : 4 * k < l.length) : decT (l.drop (4 * k)) = match grpD ((l.drop (4 * k)).take 4) with
    | none => none
    | some g => (decT (l.drop (4 * (k + 1)))).map (fun zs => g ++ zs) := by
  rw [List.drop_eq_getElem_cons h, decT, ← List.drop_eq_getElem_cons h, List.drop_drop, show 4 * k + 1 + 3 = 4 * (k + 1) by omega]

end Go.Proofs.YtmmcmiljnmbfcaaDoor
