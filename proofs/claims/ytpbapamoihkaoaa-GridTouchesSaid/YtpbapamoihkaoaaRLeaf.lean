/- The functions of package rect and of its reference that only compute a test or a number, as contracts: what each returns; the world gets new blocks at most. -/
import Derived.Test.YtpbapamoihkaoaaRPlain
import Derived.Test.YtpbapamoihkaoaaBase
import Derived.WalkKit
import Derived.ProofKit
import Derived.OpenShut
import Derived.IntWalk
import Derived.Lib.Hide
import Derived.Below
import Derived.Handy
namespace Go.Proofs.Ytpbapamoihkaoaa
open Go.ChangeShapes Go.WideShapes Go.ChangeAt Go.RowKit
set_option linter.unusedVariables false
set_option linter.unusedSimpArgs false

theorem empty_any (a b c d : Int) (w : World) :
    Calls Try.prog 34 #[.agg #[.int .i64 a, .int .i64 b, .int .i64 c, .int .i64 d]] w (TestPost (emptyB a b c d) w) := by
  go_enter Try.func34, Try.ntmps34
  go_wp2
  all_goals
    go_ret
    refine ⟨ret_bool ?_, balloc (bref _) _⟩
    rw [Bool.eq_iff_iff]; simp [emptyB] <;> omega
theorem rempty_any (a b c d : Int) (w : World) :
    Calls Try.prog 20 #[.agg #[.int .i64 a, .int .i64 b, .int .i64 c, .int .i64 d]] w (TestPost (emptyB a b c d) w) := by
  go_enter Try.func20, Try.ntmps20
  go_wp2
  all_goals
    go_ret
    refine ⟨ret_bool ?_, balloc (bref _) _⟩
    rw [Bool.eq_iff_iff]; simp [emptyB] <;> omega
theorem coord_any (a : Int) (w : World) :
    Calls Try.prog 38 #[.int .i64 a] w fun e w' => e = .returned (.bool (coordB a)) ∧ w = w' := by
  go_enter Try.func38, Try.ntmps38
  go_wp2
  all_goals
    go_ret
    refine ⟨ret_bool ?_, rfl⟩
    rw [Bool.eq_iff_iff]; simp [coordB] <;> omega
set_option maxHeartbeats 400000 in
theorem valid_any (a b c d : Int) (w : World) :
    Calls Try.prog 35 #[.agg #[.int .i64 a, .int .i64 b, .int .i64 c, .int .i64 d]] w (TestPost (validB a b c d) w) := by
  rcases he : emptyB a b c d with _ | _
  all_goals
    have he' := Lib.hid he
    go_enter Try.func35, Try.ntmps35
    go_wp2_with (go_at_call 34; refine (empty_any _ _ _ _ _).mono ?_; rintro e w1 ⟨rfl, hb⟩; obtain ⟨hc, hf⟩ := bcell hb)
    all_goals
      go_ret
      refine ⟨ret_bool ?_, bthen (balloc (bref _) _) hb⟩
      have he2 := he'.out
      clear hc hf hb he' he
      rw [Bool.eq_iff_iff, validB_t]
      first | rw [emptyB_f] at he2 | rw [emptyB_t] at he2
      simp <;> omega
set_option maxHeartbeats 1000000 in
theorem rvalid_any (a b c d : Int) (w : World) :
    Calls Try.prog 33 #[.agg #[.int .i64 a, .int .i64 b, .int .i64 c, .int .i64 d]] w (TestPost (validB a b c d) w) := by
  go_enter Try.func33, Try.ntmps33
  go_wp2_with (go_at_call 38; refine (coord_any _ _).mono ?_; rintro e w' ⟨rfl, rfl⟩)
  all_goals
    go_ret
    refine ⟨ret_bool ?_, balloc (bref _) _⟩
    rw [Bool.eq_iff_iff, validB_t]
    simp [coordB_t] at * <;> omega
theorem rarea_any (a b c d : Int) (w : World) :
    Calls Try.prog 17 #[.agg #[.int .i64 a, .int .i64 b, .int .i64 c, .int .i64 d]] w (NumPost (areaN a b c d) w) := by
  rcases hv : validB a b c d with _ | _
  · have hv' := Lib.hid hv
    go_enter Try.func17, Try.ntmps17
    go_wp2_with (go_at_call 33; refine (rvalid_any _ _ _ _ _).mono ?_; rintro e w1 ⟨rfl, hb⟩; obtain ⟨hc, hf⟩ := bcell hb)
    go_ret
    exact ⟨ret_int (by simp [areaN, hv'.out]), bthen (balloc (bref _) _) hb⟩
  · have hv' := Lib.hid hv
    have hb0 := validB_t.1 hv
    have i1 : -9223372036854775808 ≤ c - a := by omega
    have i2 : c - a ≤ 9223372036854775807 := by omega
    have i3 : -9223372036854775808 ≤ d - b := by omega
    have i4 : d - b ≤ 9223372036854775807 := by omega
    have i5 : 0 ≤ (c - a) * (d - b) := Int.mul_nonneg (by omega) (by omega)
    have i6 : (c - a) * (d - b) ≤ 2097152 * 2097152 := Int.mul_le_mul (by omega) (by omega) (by omega) (by omega)
    clear hb0
    go_enter Try.func17, Try.ntmps17
    go_wp2_with (go_at_call 33; refine (rvalid_any _ _ _ _ _).mono ?_; rintro e w1 ⟨rfl, hb⟩; obtain ⟨hc, hf⟩ := bcell hb)
    go_ret
    refine ⟨ret_int ?_, bthen (balloc (bref _) _) hb⟩
    simp only [areaN, hv'.out, if_true]
end Go.Proofs.Ytpbapamoihkaoaa
