/- Which edges are valid, as contracts of Valid of package border and of the reference; the chapter's examples. -/
import Derived.Test.YtpmajophkhihlaaBRangeB
namespace Go.Proofs.Ytpmajophkhihlaa
open Go.ChangeShapes Go.WideShapes Go.ChangeAt Go.RowKit
set_option linter.unusedVariables false
set_option linter.unusedSimpArgs false

theorem edge_any (q f m : Int) (w : World) : Calls Try.prog 44 #[.agg #[.int .i64 q, .int .i64 f], .int .i64 m] w (TestPost (edgeB q f m) w) := by
  go_enter Try.func44, Try.ntmps44
  go_wp2
  all_goals
    go_ret
    refine ⟨ret_bool ?_, balloc (bref _) _⟩
    rw [Bool.eq_iff_iff, edgeB_t]; simp at * <;> omega
theorem redge_any (q f m : Int) (w : World) : Calls Try.prog 46 #[.agg #[.int .i64 q, .int .i64 f], .int .i64 m] w (TestPost (edgeB q f m) w) := by
  go_enter Try.func46, Try.ntmps46
  go_wp2
  all_goals
    go_ret
    refine ⟨ret_bool ?_, balloc (bref _) _⟩
    rw [Bool.eq_iff_iff, edgeB_t]; simp at * <;> omega
theorem edge_is {q f m : Int} {v : Bool} (w : World) (h : edgeB q f m = v) : Calls Try.prog 44 #[.agg #[.int .i64 q, .int .i64 f], .int .i64 m] w (TestPost v w) := by
  rw [← h]; exact edge_any q f m w
theorem index_is {i n p k : Int} {v : Bool} (w : World) (i0 : -9223372036854775808 ≤ i) (i1 : i ≤ 9223372036854775807) (h1 : idxN i n p = k) (h2 : idxB i n p = v) :
    Calls Try.prog 45 #[.int .i64 i, .int .i64 n, .int .i64 p] w fun e w' => e = .returned (.tuple #[.int .i64 k, .bool v]) ∧ w = w' := by
  rw [← h1, ← h2]; exact index_any i n p w i0 i1
theorem ex1 : RangeIs (-2) 1 4 2 0 3 true := by
  refine .inl ⟨rfl, by unfold InC; omega, by unfold InC; omega, ⟨0, by omega, by omega, by decide⟩, ⟨-1, by omega, by omega, by decide⟩, fun i k h1 h2 h3 => ?_⟩
  have := idx_bd h3
  omega
theorem ex2 : RangeIs 4 9 4 3 0 0 false := range_off (by omega)
end Go.Proofs.Ytpmajophkhihlaa
