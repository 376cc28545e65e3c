/-
  Two dates are compared, for stage 3 (clock).
-/
import Derived.Test.YtebefamnmmbdnaaDate
import Derived.Test.YtebefamnmmbdnaaArr
import Derived.ChangeKeysEq
namespace Go.Proofs.Ytebefamnmmbdnaa
open Go.RowKit

theorem Try.info3 : (Try.prog.info? 3).isSome = true := by kernel_rfl

theorem part3 (xs : Array Value) (j : Nat) (v : Int) (h : xs[j]? = some (.int .i64 v)) (w : World) : (part 3 xs j).run Try.prog w = .ok (.int .i64 v) w := by
  simp [part, h, go_sem]

def same6 (y m d h i s y' m' d' h' i' s' : Int) : Bool := (y == y') && ((m == m') && ((d == d') && ((h == h') && ((i == i') && (s == s')))))

theorem eq6 (y m d h i s y' m' d' h' i' s' : Int) (w : World) : (Op.equalIn 10000 22 (.agg #[.int .i64 y, .int .i64 m, .int .i64 d, .int .i64 h, .int .i64 i, .int .i64 s]) (.agg #[.int .i64 y', .int .i64 m', .int .i64 d', .int .i64 h', .int .i64 i', .int .i64 s'])).run Try.prog w = .ok (same6 y m d h i s y' m' d' h' i' s') w := by
  obtain ⟨i0, hi⟩ := Option.isSome_iff_exists.1 Try.info3
  have r6 : List.range 6 = [0, 1, 2, 3, 4, 5] := rfl
  have q : ∀ (a b : Int) (w : World), (Op.equalIn 9999 3 (.int .i64 a) (.int .i64 b)).run Try.prog w = .ok (a == b) w := fun a b w => run_equalIn_int w 9998 3 .i64 .i64 a b Try.underlying3
  rw [run_equalIn_array w 9999 _ _ Try.underlying22 hi, Try.cells3, r6]
  have step : ∀ (xs ys : Array Value) (j : Nat) (a b : Int) (js : List Nat) (r : Bool) (w : World), xs[j]? = some (.int .i64 a) → ys[j]? = some (.int .i64 b) → (Op.eqItems 9999 3 1 xs ys js).run Try.prog w = .ok r w → (Op.eqItems 9999 3 1 xs ys (j :: js)).run Try.prog w = .ok ((a == b) && r) w := by
    intro xs ys j a b js r w h1 h2 h3
    simp only [Op.eqItems, Sem.run_bind, Nat.mul_one, part3 xs j a h1, part3 ys j b h2, q, Result.andThen_ok]
    cases (a == b)
    · simp
    · simpa using h3
  unfold same6
  refine step _ _ 0 _ _ _ _ _ rfl rfl (step _ _ 1 _ _ _ _ _ rfl rfl (step _ _ 2 _ _ _ _ _ rfl rfl (step _ _ 3 _ _ _ _ _ rfl rfl (step _ _ 4 _ _ _ _ _ rfl rfl ?_))))
  have := step #[.int .i64 y, .int .i64 m, .int .i64 d, .int .i64 h, .int .i64 i, .int .i64 s] #[.int .i64 y', .int .i64 m', .int .i64 d', .int .i64 h', .int .i64 i', .int .i64 s'] 5 s s' [] true w rfl rfl (by simp [Op.eqItems])
  rw [Bool.and_true] at this
  exact this

theorem same6_refl (y m d h i s : Int) : same6 y m d h i s y m d h i s = true := by simp [same6]
theorem same6_iff {y m d h i s y' m' d' h' i' s' : Int} : same6 y m d h i s y' m' d' h' i' s' = true ↔ (⟨y, m, d, h, i, s⟩ : D6) = ⟨y', m', d', h', i', s'⟩ := by simp [same6]

end Go.Proofs.Ytebefamnmmbdnaa
