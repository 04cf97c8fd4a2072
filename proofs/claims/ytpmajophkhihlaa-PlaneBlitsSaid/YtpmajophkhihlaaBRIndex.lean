/- To what a coordinate is mapped, as contracts of Index of the reference, a policy at a time. -/
import Derived.Test.YtpmajophkhihlaaBLeaf
namespace Go.Proofs.Ytpmajophkhihlaa
open Go.ChangeShapes Go.WideShapes Go.ChangeAt Go.RowKit
set_option linter.unusedVariables false
set_option linter.unusedSimpArgs false

theorem rindex_len (i n p : Int) (w : World) (h : n < 1 ∨ 128 < n) :
    Calls Try.prog 58 #[.int .i64 i, .int .i64 n, .int .i64 p] w (IdxPost i n p w) := by
  go_enter Try.func58, Try.ntmps58
  go_wp2_with fail
  all_goals
    go_ret2
    exact ⟨ret_ib (idx_no (idx_len (by omega))), rfl⟩
theorem rindex_clamp (i n : Int) (w : World) (n1 : 1 ≤ n) (n2 : n ≤ 128) (i0 : -9223372036854775808 ≤ i) (i1 : i ≤ 9223372036854775807) :
    Calls Try.prog 58 #[.int .i64 i, .int .i64 n, .int .i64 0] w (IdxPost i n 0 w) := by
  go_enter Try.func58, Try.ntmps58
  go_wp2_with fail
  all_goals
    go_ret2
    refine ⟨ret_ib (idx_at ((idx_clamp n1 n2).trans (congrArg some ?_))), rfl⟩; omega
theorem rindex_wrap (i n : Int) (w : World) (n1 : 1 ≤ n) (n2 : n ≤ 128) (i0 : -9223372036854775808 ≤ i) (i1 : i ≤ 9223372036854775807) :
    Calls Try.prog 58 #[.int .i64 i, .int .i64 n, .int .i64 2] w (IdxPost i n 2 w) := by
  go_enter Try.func58, Try.ntmps58
  go_wp2_with fail
  refine (rmod_any i n _ (by omega) (by omega) i0 i1).mono ?_; rintro e w1 ⟨rfl, rfl⟩
  go_wp2_with fail
  go_ret2
  exact ⟨ret_ib (idx_at (idx_wrap n1 n2)), rfl⟩
theorem rindex_const (i n : Int) (w : World) (n1 : 1 ≤ n) (n2 : n ≤ 128) (i0 : -9223372036854775808 ≤ i) (i1 : i ≤ 9223372036854775807) :
    Calls Try.prog 58 #[.int .i64 i, .int .i64 n, .int .i64 3] w (IdxPost i n 3 w) := by
  go_enter Try.func58, Try.ntmps58
  go_wp2_with fail
  all_goals
    go_ret2
    first
      | exact ⟨ret_ib (idx_no (idx_out (by omega))), rfl⟩
      | exact ⟨ret_ib (idx_at (idx_const n1 n2 (by omega) (by omega))), rfl⟩
theorem rindex_other (i n p : Int) (w : World) (n1 : 1 ≤ n) (n2 : n ≤ 128) (hp : p < 0 ∨ 3 < p) :
    Calls Try.prog 58 #[.int .i64 i, .int .i64 n, .int .i64 p] w (IdxPost i n p w) := by
  go_enter Try.func58, Try.ntmps58
  go_wp2_with fail
  all_goals
    go_ret2
    exact ⟨ret_ib (idx_no (idx_pol hp)), rfl⟩
theorem rindex_mirror (i n : Int) (w : World) (n1 : 1 ≤ n) (n2 : n ≤ 128) (i0 : -9223372036854775808 ≤ i) (i1 : i ≤ 9223372036854775807) :
    Calls Try.prog 58 #[.int .i64 i, .int .i64 n, .int .i64 1] w (IdxPost i n 1 w) := by
  go_enter Try.func58, Try.ntmps58
  go_wp2_with fail
  refine (rmod_any i (2 * n) _ (by omega) (by omega) i0 i1).mono ?_; rintro e w1 ⟨rfl, rfl⟩
  have m0 := Int.emod_nonneg i (show (2 * n) ≠ 0 by omega)
  have m1 := Int.emod_lt_of_pos i (show 0 < 2 * n by omega)
  have eM := Lib.hid (idx_mirror (i := i) n1 n2)
  obtain ⟨M, eM2⟩ : ∃ M, i % (2 * n) = M := ⟨_, rfl⟩
  have eM3 := Lib.hid eM2
  rw [eM2] at m0 m1
  simp only [eM2]
  clear eM2
  go_wp2_with (refine (rmod_any i (2 * n) _ (by omega) (by omega) i0 i1).mono ?_; rintro e w1 ⟨rfl, rfl⟩; simp only [eM3.out])
  all_goals
    go_ret2
    refine ⟨ret_ib (idx_at (eM.out.trans (congrArg some ?_))), rfl⟩; rw [eM3.out]; split <;> omega
theorem rindex_any (i n p : Int) (w : World) (i0 : -9223372036854775808 ≤ i) (i1 : i ≤ 9223372036854775807) : Calls Try.prog 58 #[.int .i64 i, .int .i64 n, .int .i64 p] w (IdxPost i n p w) := by
  by_cases h : n < 1 ∨ 128 < n
  · exact rindex_len i n p w h
  · by_cases hp : p < 0 ∨ 3 < p
    · exact rindex_other i n p w (by omega) (by omega) hp
    · rcases (show p = 0 ∨ p = 1 ∨ p = 2 ∨ p = 3 by omega) with rfl | rfl | rfl | rfl
      · exact rindex_clamp i n w (by omega) (by omega) i0 i1
      · exact rindex_mirror i n w (by omega) (by omega) i0 i1
      · exact rindex_wrap i n w (by omega) (by omega) i0 i1
      · exact rindex_const i n w (by omega) (by omega) i0 i1
end Go.Proofs.Ytpmajophkhihlaa
