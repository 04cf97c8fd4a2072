/- Shift, Clamp and Span of the reference as contracts: what each returns; they leave the world as it is. -/
import Derived.Test.YtjmdpebocchdhaaDoorHPlain
namespace Go.Proofs.YtjmdpebocchdhaaDoor
open Go.ChangeShapes Go.WideShapes Go.ChangeAt Go.RowKit
set_option linter.unusedVariables false
set_option linter.unusedSimpArgs false

theorem rweightB_any (n : Int) (w : World) : Calls Tryd.prog 39 #[.int .i64 n] w fun e w' => e = .returned (.bool (weightB n)) ∧ w = w' := by
  go_enter Tryd.func39, Tryd.ntmps39
  go_wp2
  all_goals
    go_ret
    refine ⟨ret_bool ?_, rfl⟩
    rw [Bool.eq_iff_iff, weightB_t]; simp <;> omega
theorem rweightB_is {n : Int} {b : Bool} (h : weightB n = b) (w : World) : Calls Tryd.prog 39 #[.int .i64 n] w fun e w' => e = .returned (.bool b) ∧ w = w' := by rw [← h]; exact rweightB_any n w
/-- a number came back, and nothing else -/
def SamePost (n : Int) (w : World) (e : Ending) (w' : World) : Prop := e = .returned (.int .i64 n) ∧ w = w'
theorem wrap_in {n : Int} (h0 : -9223372036854775808 ≤ n) (h1 : n ≤ 9223372036854775807) : wrap64 n = n := by unfold wrap64; omega
/-- a quotient times its divisor is near the number -/
theorem quo_bd {n d : Int} (hd : 1 ≤ d) (B : Int) (hn : -B ≤ n ∧ n ≤ B) : (-B ≤ n.tdiv d ∧ n.tdiv d ≤ B) ∧ (-B ≤ n.tdiv d * d ∧ n.tdiv d * d ≤ B) := by
  have h1 := Int.tmod_add_mul_tdiv n d
  have c : d * n.tdiv d = n.tdiv d * d := Int.mul_comm _ _
  rw [c] at h1
  have e : ∀ m : Int, 0 ≤ m → 0 ≤ m.tdiv d ∧ m.tdiv d ≤ m ∧ 0 ≤ m.tdiv d * d ∧ m.tdiv d * d ≤ m := fun m hm => by
    rw [Int.tdiv_eq_ediv_of_nonneg hm]
    have a1 := Int.ediv_nonneg hm (show 0 ≤ d by omega)
    exact ⟨a1, Int.ediv_le_self _ hm, Int.mul_nonneg a1 (by omega), Int.ediv_mul_le _ (by omega)⟩
  rcases Int.lt_or_le n 0 with g | g
  · have h2 := e (-n) (by omega)
    rw [Int.neg_tdiv, Int.neg_mul] at h2
    omega
  · have h2 := e n g
    omega
/-- what Span leaves -/
def SpanPost (lo hi s : Int) (w : World) (e : Ending) (w' : World) : Prop := e = .returned (.tuple #[.int .i64 (shiftN lo s), .int .i64 (shiftN hi s)]) ∧ w = w'
end Go.Proofs.YtjmdpebocchdhaaDoor
