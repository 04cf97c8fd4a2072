/- To what a coordinate is mapped, as contracts of Index of package border, a policy at a time. -/
import Derived.Test.YtpmajophkhihlaaBLeaf
namespace Go.Proofs.Ytpmajophkhihlaa
open Go.ChangeShapes Go.WideShapes Go.ChangeAt Go.RowKit
set_option linter.unusedVariables false
set_option linter.unusedSimpArgs false

theorem index_len (i n p : Int) (w : World) (h : n < 1 ∨ 128 < n) :
    Calls Try.prog 45 #[.int .i64 i, .int .i64 n, .int .i64 p] w (IdxPost i n p w) := by
  have hs' := Lib.hid (lenB_f.2 h)
  clear h
  go_enter Try.func45, Try.ntmps45
  go_wp2_with fail
  refine (len_any _ _).mono ?_; rintro e w1 ⟨rfl, rfl⟩; simp only [hs'.out]
  go_wp2_with fail
  go_ret2
  exact ⟨ret_ib (idx_no (idx_len (lenB_f.1 hs'.out))), rfl⟩
theorem index_clamp (i n : Int) (w : World) (n1 : 1 ≤ n) (n2 : n ≤ 128) (i0 : -9223372036854775808 ≤ i) (i1 : i ≤ 9223372036854775807) :
    Calls Try.prog 45 #[.int .i64 i, .int .i64 n, .int .i64 0] w (IdxPost i n 0 w) := by
  have hs' := Lib.hid (lenB_t.2 ⟨n1, n2⟩)
  go_enter Try.func45, Try.ntmps45
  go_wp2_with fail
  refine (len_any _ _).mono ?_; rintro e w1 ⟨rfl, rfl⟩; simp only [hs'.out]
  go_wp2_with fail
  all_goals
    go_ret2
    refine ⟨ret_ib (idx_at ((idx_clamp n1 n2).trans (congrArg some ?_))), rfl⟩; omega
theorem index_wrap (i n : Int) (w : World) (n1 : 1 ≤ n) (n2 : n ≤ 128) (i0 : -9223372036854775808 ≤ i) (i1 : i ≤ 9223372036854775807) :
    Calls Try.prog 45 #[.int .i64 i, .int .i64 n, .int .i64 2] w (IdxPost i n 2 w) := by
  have hs' := Lib.hid (lenB_t.2 ⟨n1, n2⟩)
  go_enter Try.func45, Try.ntmps45
  go_wp2_with fail
  refine (len_any _ _).mono ?_; rintro e w1 ⟨rfl, rfl⟩; simp only [hs'.out]
  go_wp2_with fail
  refine (modulo_any i n _ (by omega) (by omega) i0 i1).mono ?_; rintro e w1 ⟨rfl, rfl⟩
  go_wp2_with fail
  go_ret2
  exact ⟨ret_ib (idx_at (idx_wrap n1 n2)), rfl⟩
theorem index_const (i n : Int) (w : World) (n1 : 1 ≤ n) (n2 : n ≤ 128) (i0 : -9223372036854775808 ≤ i) (i1 : i ≤ 9223372036854775807) :
    Calls Try.prog 45 #[.int .i64 i, .int .i64 n, .int .i64 3] w (IdxPost i n 3 w) := by
  have hs' := Lib.hid (lenB_t.2 ⟨n1, n2⟩)
  go_enter Try.func45, Try.ntmps45
  go_wp2_with fail
  refine (len_any _ _).mono ?_; rintro e w1 ⟨rfl, rfl⟩; simp only [hs'.out]
  go_wp2_with fail
  all_goals
    go_ret2
    first
      | exact ⟨ret_ib (idx_no (idx_out (by omega))), rfl⟩
      | exact ⟨ret_ib (idx_at (idx_const n1 n2 (by omega) (by omega))), rfl⟩
theorem index_other (i n p : Int) (w : World) (n1 : 1 ≤ n) (n2 : n ≤ 128) (hp : p < 0 ∨ 3 < p) :
    Calls Try.prog 45 #[.int .i64 i, .int .i64 n, .int .i64 p] w (IdxPost i n p w) := by
  have hs' := Lib.hid (lenB_t.2 ⟨n1, n2⟩)
  go_enter Try.func45, Try.ntmps45
  go_wp2_with fail
  refine (len_any _ _).mono ?_; rintro e w1 ⟨rfl, rfl⟩; simp only [hs'.out]
  go_wp2_with fail
  all_goals
    go_ret2
    exact ⟨ret_ib (idx_no (idx_pol hp)), rfl⟩
theorem index_mirror (i n : Int) (w : World) (n1 : 1 ≤ n) (n2 : n ≤ 128) (i0 : -9223372036854775808 ≤ i) (i1 : i ≤ 9223372036854775807) :
    Calls Try.prog 45 #[.int .i64 i, .int .i64 n, .int .i64 1] w (IdxPost i n 1 w) := by
  have hs' := Lib.hid (lenB_t.2 ⟨n1, n2⟩)
  go_enter Try.func45, Try.ntmps45
  go_wp2_with fail
  refine (len_any _ _).mono ?_; rintro e w1 ⟨rfl, rfl⟩; simp only [hs'.out]
  go_wp2_with fail
  refine (modulo_any i (2 * n) _ (by omega) (by omega) i0 i1).mono ?_; rintro e w1 ⟨rfl, rfl⟩
  have m0 := Int.emod_nonneg i (show (2 * n) ≠ 0 by omega)
  have m1 := Int.emod_lt_of_pos i (show 0 < 2 * n by omega)
  have eM := Lib.hid (idx_mirror (i := i) n1 n2)
  generalize i % (2 * n) = M at *
  go_wp2_with fail
  all_goals
    go_ret2
    refine ⟨ret_ib (idx_at (eM.out.trans (congrArg some ?_))), rfl⟩; split <;> omega
theorem index_any (i n p : Int) (w : World) (i0 : -9223372036854775808 ≤ i) (i1 : i ≤ 9223372036854775807) : Calls Try.prog 45 #[.int .i64 i, .int .i64 n, .int .i64 p] w (IdxPost i n p w) := by
  by_cases h : n < 1 ∨ 128 < n
  · exact index_len i n p w h
  · by_cases hp : p < 0 ∨ 3 < p
    · exact index_other i n p w (by omega) (by omega) hp
    · rcases (show p = 0 ∨ p = 1 ∨ p = 2 ∨ p = 3 by omega) with rfl | rfl | rfl | rfl
      · exact index_clamp i n w (by omega) (by omega) i0 i1
      · exact index_mirror i n w (by omega) (by omega) i0 i1
      · exact index_wrap i n w (by omega) (by omega) i0 i1
      · exact index_const i n w (by omega) (by omega) i0 i1
end Go.Proofs.Ytpmajophkhihlaa
