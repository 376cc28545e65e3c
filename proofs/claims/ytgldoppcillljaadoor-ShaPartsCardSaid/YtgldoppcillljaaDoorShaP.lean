/-
  What a hash of bytes is, plain: words, their turning, blocks (for stage 6, sha). Nothing of the program is named here.
-/
import Derived.Test.YtgldoppcillljaaDoorMath
import Derived.Test.YtgldoppcillljaaDoorBytesC
namespace Go.Proofs.YtgldoppcillljaaDoor
open Go.RowKit
set_option linter.unusedVariables false

/-- A word turned to the right. -/
def rotZ (x : Int) (n : Nat) : Int := x / 2 ^ n + x % 2 ^ n * 2 ^ (32 - n)
def sx (x y z : Int) : Int := bits .xor .u32 (bits .xor .u32 x y) z
def lowS (x : Int) : Int := sx (rotZ x 7) (rotZ x 18) (x / 8)
def highS (y : Int) : Int := sx (rotZ y 17) (rotZ y 19) (y / 1024)
def bigE (e : Int) : Int := sx (rotZ e 6) (rotZ e 11) (rotZ e 25)
def bigA (a : Int) : Int := sx (rotZ a 2) (rotZ a 13) (rotZ a 22)
/-- The bits of f where e has a 1, and those of g where e has a 0. -/
def choose (e f g : Int) : Int := bits .or .u32 (bits .and .u32 e f) (bits .and .u32 (bits .xor .u32 IntKind.u32.max e) g)
/-- The bits that at least two have. -/
def most (a b c : Int) : Int := bits .or .u32 (bits .or .u32 (bits .and .u32 a b) (bits .and .u32 a c)) (bits .and .u32 b c)
def m32 (x : Int) : Int := x % 4294967296

def CONSTS : List Int := [
  0x428a2f98, 0x71374491, 0xb5c0fbcf, 0xe9b5dba5, 0x3956c25b, 0x59f111f1, 0x923f82a4, 0xab1c5ed5,
  0xd807aa98, 0x12835b01, 0x243185be, 0x550c7dc3, 0x72be5d74, 0x80deb1fe, 0x9bdc06a7, 0xc19bf174,
  0xe49b69c1, 0xefbe4786, 0x0fc19dc6, 0x240ca1cc, 0x2de92c6f, 0x4a7484aa, 0x5cb0a9dc, 0x76f988da,
  0x983e5152, 0xa831c66d, 0xb00327c8, 0xbf597fc7, 0xc6e00bf3, 0xd5a79147, 0x06ca6351, 0x14292967,
  0x27b70a85, 0x2e1b2138, 0x4d2c6dfc, 0x53380d13, 0x650a7354, 0x766a0abb, 0x81c2c92e, 0x92722c85,
  0xa2bfe8a1, 0xa81a664b, 0xc24b8b70, 0xc76c51a3, 0xd192e819, 0xd6990624, 0xf40e3585, 0x106aa070,
  0x19a4c116, 0x1e376c08, 0x2748774c, 0x34b0bcb5, 0x391c0cb3, 0x4ed8aa4a, 0x5b9cca4f, 0x682e6ff3,
  0x748f82ee, 0x78a5636f, 0x84c87814, 0x8cc70208, 0x90befffa, 0xa4506ceb, 0xbef9a3f7, 0xc67178f2]
theorem consts_len : CONSTS.length = 64 := rfl
theorem consts_range : ∀ x ∈ CONSTS, 0 ≤ x ∧ x ≤ 4294967295 := by decide +kernel

/-- Eight words. -/
structure V8 where
  a : Int
  b : Int
  c : Int
  d : Int
  e : Int
  f : Int
  g : Int
  h : Int
def V8.list (v : V8) : List Int := [v.a, v.b, v.c, v.d, v.e, v.f, v.g, v.h]
def W32 (x : Int) : Prop := 0 ≤ x ∧ x ≤ 4294967295
def V8.ok (v : V8) : Prop := W32 v.a ∧ W32 v.b ∧ W32 v.c ∧ W32 v.d ∧ W32 v.e ∧ W32 v.f ∧ W32 v.g ∧ W32 v.h
def H0 : V8 := ⟨0x6a09e667, 0xbb67ae85, 0x3c6ef372, 0xa54ff53a, 0x510e527f, 0x9b05688c, 0x1f83d9ab, 0x5be0cd19⟩

/-- A word of four bytes. -/
def wordZ (b : List Int) (i : Nat) : Int := ((b[i]?.getD 0 * 256 + b[i + 1]?.getD 0) * 256 + b[i + 2]?.getD 0) * 256 + b[i + 3]?.getD 0
/-- The next word behind t of them. -/
def nextZ (l : List Int) (t : Nat) : Int := m32 (l[t - 16]?.getD 0 + lowS (l[t - 15]?.getD 0) + l[t - 7]?.getD 0 + highS (l[t - 2]?.getD 0))
/-- The first words of a block. -/
def wordsZ8 (b : List Int) : Nat → List Int
  | 0 => []
  | k + 1 => wordsZ8 b k ++ [if k < 16 then wordZ b (4 * k) else nextZ (wordsZ8 b k) k]
def stepV (v : V8) (c w : Int) : V8 :=
  let p := m32 (v.h + bigE v.e + choose v.e v.f v.g + c + w)
  let q := m32 (bigA v.a + most v.a v.b v.c)
  ⟨m32 (p + q), v.a, v.b, v.c, m32 (v.d + p), v.e, v.f, v.g⟩
def roundsV (s : V8) (ws : List Int) : Nat → V8
  | 0 => s
  | t + 1 => stepV (roundsV s ws t) (CONSTS[t]?.getD 0) (ws[t]?.getD 0)
def addV (v s : V8) : V8 := ⟨m32 (v.a + s.a), m32 (v.b + s.b), m32 (v.c + s.c), m32 (v.d + s.d), m32 (v.e + s.e), m32 (v.f + s.f), m32 (v.g + s.g), m32 (v.h + s.h)⟩
def blockV (s : V8) (b : List Int) : V8 := addV (roundsV s (wordsZ8 b 64) 64) s
/-- Some blocks, one behind the other. -/
def runV : Nat → V8 → List Int → V8
  | 0, s, _ => s
  | k + 1, s, l => runV k (blockV s (l.take 64)) (l.drop 64)
/-- How many noughts fill up. -/
def padN (n : Nat) : Nat := (119 - n % 64) % 64
def fillZ (zs : List Int) : List Int := zs ++ [128] ++ List.replicate (padN zs.length) 0 ++ beZ 8 (8 * (zs.length : Int))
def outV (v : V8) : List Int := v.list.flatMap fun x => beZ 4 x
def hashZ (zs : List Int) : List Int := outV (runV ((fillZ zs).length / 64) H0 (fillZ zs))

theorem fill_len (zs : List Int) : (fillZ zs).length = 64 * ((zs.length + 9 + padN zs.length) / 64) ∧ (zs.length + 1 + padN zs.length) % 64 = 56 := by
  unfold fillZ padN
  simp only [List.length_append, List.length_cons, List.length_nil, List.length_replicate, beZ_length]
  omega
theorem runV_add (j k : Nat) : ∀ (s : V8) (l1 l2 : List Int), l1.length = 64 * j → runV (j + k) s (l1 ++ l2) = runV k (runV j s l1) l2 := by
  induction j with
  | zero =>
    intro s l1 l2 h
    obtain rfl : l1 = [] := List.eq_nil_of_length_eq_zero (by omega)
    rw [Nat.zero_add, runV, List.nil_append]
  | succ j ih =>
    intro s l1 l2 h
    rw [show j + 1 + k = (j + k) + 1 by omega, runV, runV, List.take_append_of_le_length (by omega), List.drop_append_of_le_length (by omega)]
    exact ih _ _ _ (by rw [List.length_drop]; omega)
theorem wordsZ8_len (b : List Int) (k : Nat) : (wordsZ8 b k).length = k := by
  induction k with
  | zero => rfl
  | succ k ih => rw [wordsZ8, List.length_append, ih]; rfl
theorem m32_range (x : Int) : W32 (m32 x) := by unfold W32 m32; omega
theorem hash_abc : hashZ [97, 98, 99] = [0xba, 0x78, 0x16, 0xbf, 0x8f, 0x01, 0xcf, 0xea, 0x41, 0x41, 0x40, 0xde, 0x5d, 0xae, 0x22, 0x23, 0xb0, 0x03, 0x61, 0xa3, 0x96, 0x17, 0x7a, 0x9c, 0xb4, 0x10, 0xff, 0x61, 0xf2, 0x00, 0x15, 0xad] := by decide +kernel

end Go.Proofs.YtgldoppcillljaaDoor
