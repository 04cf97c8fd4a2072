/- A rounded quotient as a contract, of the program and of its reference: each returns the stated number and leaves the world as it is. -/
import Derived.Test.YtpbapamoihkaoaaBase
namespace Go.Proofs.Ytpbapamoihkaoaa
open Go.ChangeShapes Go.WideShapes Go.ChangeAt Go.RowKit
set_option linter.unusedVariables false

/-- a quotient rounded up -/
def ceilN (a b : Int) : Int := if a < 0 ∨ b < 1 then 0 else if 0 < a % b then a / b + 1 else a / b
theorem ceilN_bd (a b : Int) (ha : a ≤ 9223372036854775807) : 0 ≤ ceilN a b ∧ ceilN a b ≤ 9223372036854775807 := by
  unfold ceilN
  split
  · omega
  · rename_i h
    have h1 : 0 ≤ a / b := Int.ediv_nonneg (by omega) (by omega)
    have h2 : a / b ≤ a := Int.ediv_le_self _ (by omega)
    split
    · rename_i hr
      by_cases hb : b = 1
      · subst hb; omega
      · have h3 : a / b * b ≤ a := Int.ediv_mul_le _ (by omega)
        have h4 : a / b * 2 ≤ a / b * b := Int.mul_le_mul_of_nonneg_left (by omega) h1
        omega
    · omega
theorem ceil_no {a b : Int} (h : a < 0 ∨ b < 1) : 0 = ceilN a b := by simp [ceilN, h]
theorem ceil_up {a b : Int} (h0 : 0 ≤ a) (h1 : 1 ≤ b) (h : 0 < a % b) : a / b + 1 = ceilN a b := by
  have g : ¬ (a < 0 ∨ b < 1) := by omega
  simp [ceilN, g, h]
theorem ceil_at {a b : Int} (h0 : 0 ≤ a) (h1 : 1 ≤ b) (h : a % b ≤ 0) : a / b = ceilN a b := by
  have g : ¬ (a < 0 ∨ b < 1) := by omega
  have g' : ¬ 0 < a % b := by omega
  simp [ceilN, g, g']
theorem ceil_mul {x y : Int} (h0 : 0 ≤ x) (h1 : 1 ≤ y) : x ≤ ceilN x y * y ∧ ceilN x y * y - x < y ∧ 0 ≤ ceilN x y ∧ (ceilN x y * y) % y = 0 := by
  have g : ¬ (x < 0 ∨ y < 1) := by omega
  have e := Int.emod_add_mul_ediv x y
  have r0 := Int.emod_nonneg x (show y ≠ 0 by omega)
  have r1 := Int.emod_lt_of_pos x (show 0 < y by omega)
  have q := Int.ediv_nonneg h0 (show 0 ≤ y by omega)
  have c : y * (x / y) = (x / y) * y := Int.mul_comm _ _
  refine ⟨?_, ?_, ?_, Int.mul_emod_left _ _⟩
  all_goals
    unfold ceilN
    rw [if_neg g]
    split
  · rw [Int.add_mul]; omega
  · omega
  · rw [Int.add_mul]; omega
  · omega
  · omega
  · omega
theorem wrap_id (n : Int) (h0 : -9223372036854775808 ≤ n) (h1 : n ≤ 9223372036854775807) : wrap64 n = n := by
  unfold wrap64; omega
/-- what a rounded quotient leaves -/
def CeilPost (a b : Int) (w : World) (e : Ending) (w' : World) : Prop := e = .returned (.int .i64 (ceilN a b)) ∧ w = w'
theorem ceil_any (a b : Int) (w : World) (a0 : -9223372036854775808 ≤ a) (a1 : a ≤ 9223372036854775807) (b0 : -9223372036854775808 ≤ b) (b1 : b ≤ 9223372036854775807) :
    Calls Try.prog 25 #[.int .i64 a, .int .i64 b] w (CeilPost a b w) := by
  have H := ceilN_bd a b a1
  go_enter Try.func25, Try.ntmps25
  go_wp2
  all_goals
    go_ret
    refine ⟨ret_int ?_, rfl⟩
    first
      | exact ceil_no (by omega)
      | exact ceil_at (by omega) (by omega) (by omega)
      | (have h := ceil_up (a := a) (b := b) (by omega) (by omega) (by omega)
         show wrap64 (a / b + 1) = _
         rw [wrap_id _ (by omega) (by omega)]; exact h)
theorem rceil_any (a b : Int) (w : World) (a0 : -9223372036854775808 ≤ a) (a1 : a ≤ 9223372036854775807) (b0 : -9223372036854775808 ≤ b) (b1 : b ≤ 9223372036854775807) :
    Calls Try.prog 37 #[.int .i64 a, .int .i64 b] w (CeilPost a b w) := by
  have H := ceilN_bd a b a1
  go_enter Try.func37, Try.ntmps37
  go_wp2
  all_goals
    go_ret
    refine ⟨ret_int ?_, rfl⟩
    first
      | exact ceil_no (by omega)
      | exact ceil_at (by omega) (by omega) (by omega)
      | (have h := ceil_up (a := a) (b := b) (by omega) (by omega) (by omega)
         show wrap64 (a / b + 1) = _
         rw [wrap_id _ (by omega) (by omega)]; exact h)
end Go.Proofs.Ytpbapamoihkaoaa
