/- The functions of package rect and of its reference that only compute a test or a number, as contracts: what each returns; the world gets new blocks at most. -/
import Derived.Test.YtpmajophkhihlaaRPlain
import Derived.Test.YtpmajophkhihlaaBase
import Derived.WalkKit
import Derived.ProofKit
import Derived.OpenShut
import Derived.IntWalk
import Derived.Lib.Hide
import Derived.Below
import Derived.Handy
namespace Go.Proofs.Ytpmajophkhihlaa
open Go.ChangeShapes Go.WideShapes Go.ChangeAt Go.RowKit
set_option linter.unusedVariables false
set_option linter.unusedSimpArgs false

theorem empty_any (a b c d : Int) (w : World) :
    Calls Try.prog 33 #[.agg #[.int .i64 a, .int .i64 b, .int .i64 c, .int .i64 d]] w (TestPost (emptyB a b c d) w) := by
  go_enter Try.func33, Try.ntmps33
  go_wp2
  all_goals
    go_ret
    refine ⟨ret_bool ?_, balloc (bref _) _⟩
    rw [Bool.eq_iff_iff]; simp [emptyB] <;> omega
theorem rempty_any (a b c d : Int) (w : World) :
    Calls Try.prog 48 #[.agg #[.int .i64 a, .int .i64 b, .int .i64 c, .int .i64 d]] w (TestPost (emptyB a b c d) w) := by
  go_enter Try.func48, Try.ntmps48
  go_wp2
  all_goals
    go_ret
    refine ⟨ret_bool ?_, balloc (bref _) _⟩
    rw [Bool.eq_iff_iff]; simp [emptyB] <;> omega
theorem coord_any (a : Int) (w : World) :
    Calls Try.prog 59 #[.int .i64 a] w fun e w' => e = .returned (.bool (coordB a)) ∧ w = w' := by
  go_enter Try.func59, Try.ntmps59
  go_wp2
  all_goals
    go_ret
    refine ⟨ret_bool ?_, rfl⟩
    rw [Bool.eq_iff_iff]; simp [coordB] <;> omega
set_option maxHeartbeats 400000 in
theorem valid_any (a b c d : Int) (w : World) :
    Calls Try.prog 52 #[.agg #[.int .i64 a, .int .i64 b, .int .i64 c, .int .i64 d]] w (TestPost (validB a b c d) w) := by
  rcases he : emptyB a b c d with _ | _
  all_goals
    have he' := Lib.hid he
    go_enter Try.func52, Try.ntmps52
    go_wp2_with (go_at_call 33; refine (empty_any _ _ _ _ _).mono ?_; rintro e w1 ⟨rfl, hb⟩; obtain ⟨hc, hf⟩ := bcell hb)
    all_goals
      go_ret
      refine ⟨ret_bool ?_, bthen (balloc (bref _) _) hb⟩
      have he2 := he'.out
      clear hc hf hb he' he
      rw [Bool.eq_iff_iff, validB_t]
      first | rw [emptyB_f] at he2 | rw [emptyB_t] at he2
      simp <;> omega
set_option maxHeartbeats 1000000 in
theorem rvalid_any (a b c d : Int) (w : World) :
    Calls Try.prog 51 #[.agg #[.int .i64 a, .int .i64 b, .int .i64 c, .int .i64 d]] w (TestPost (validB a b c d) w) := by
  go_enter Try.func51, Try.ntmps51
  go_wp2_with (go_at_call 59; refine (coord_any _ _).mono ?_; rintro e w' ⟨rfl, rfl⟩)
  all_goals
    go_ret
    refine ⟨ret_bool ?_, balloc (bref _) _⟩
    rw [Bool.eq_iff_iff, validB_t]
    simp [coordB_t] at * <;> omega
end Go.Proofs.Ytpmajophkhihlaa
