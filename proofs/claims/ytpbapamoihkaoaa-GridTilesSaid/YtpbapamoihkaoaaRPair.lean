/- The functions of two rectangles, of the program and of the reference, that return a test or one rectangle, as contracts: what each returns; the world gets new blocks at most. -/
import Derived.Test.YtpbapamoihkaoaaRLeaf
import Derived.Deep.RegionHeld3
namespace Go.Proofs.Ytpbapamoihkaoaa
open Go.ChangeShapes Go.WideShapes Go.ChangeAt Go.RowKit
set_option linter.unusedVariables false
set_option linter.unusedSimpArgs false

theorem contains_any (a b c d x y : Int) (w : World) :
    Calls Try.prog 22 #[.agg #[.int .i64 a, .int .i64 b, .int .i64 c, .int .i64 d], .int .i64 x, .int .i64 y] w (TestPost (containsB a b c d x y) w) := by
  rcases hv : validB a b c d with _ | _
  all_goals
    have hv' := Lib.hid hv
    go_enter Try.func22, Try.ntmps22
    go_wp2_with (go_at_call 35; refine (valid_any _ _ _ _ _).mono ?_; rintro e w1 ⟨rfl, hb⟩; obtain ⟨hc, hf⟩ := bcell hb)
    all_goals
      go_ret
      refine ⟨ret_bool ?_, bthen (balloc (bref _) _) hb⟩
      rw [Bool.eq_iff_iff, containsB_t, hv'.out]
      simp <;> omega
theorem rcontains_any (a b c d x y : Int) (w : World) :
    Calls Try.prog 18 #[.agg #[.int .i64 a, .int .i64 b, .int .i64 c, .int .i64 d], .int .i64 x, .int .i64 y] w (TestPost (containsB a b c d x y) w) := by
  rcases hv : validB a b c d with _ | _
  all_goals
    have hv' := Lib.hid hv
    go_enter Try.func18, Try.ntmps18
    go_wp2_with (go_at_call 33; refine (rvalid_any _ _ _ _ _).mono ?_; rintro e w1 ⟨rfl, hb⟩; obtain ⟨hc, hf⟩ := bcell hb)
    all_goals
      go_ret
      refine ⟨ret_bool ?_, bthen (balloc (bref _) _) hb⟩
      rw [Bool.eq_iff_iff, containsB_t, hv'.out]
      simp <;> omega
set_option maxHeartbeats 1000000 in
theorem rinside_any (a b c d e f g h : Int) (w : World) :
    Calls Try.prog 16 #[.agg #[.int .i64 a, .int .i64 b, .int .i64 c, .int .i64 d], .agg #[.int .i64 e, .int .i64 f, .int .i64 g, .int .i64 h]] w (TestPost (insideB a b c d e f g h) w) := by
  rcases hv : validB a b c d with _ | _
  · have hv' := Lib.hid hv
    go_enter Try.func16, Try.ntmps16
    go_wp2_with (first
      | (go_at_call 33; refine (rvalid_any _ _ _ _ _).mono ?_; rintro e w1 ⟨rfl, hb⟩; obtain ⟨hc, hf⟩ := bcell hb))
    go_ret
    refine ⟨ret_bool ?_, bthen (balloc (balloc (bref _) _) _) hb⟩
    rw [Bool.eq_iff_iff, insideB_t, hv'.out]
    simp
  · rcases hu : validB e f g h with _ | _
    · have hv' := Lib.hid hv
      have hu' := Lib.hid hu
      go_enter Try.func16, Try.ntmps16
      go_wp2_with fail
      refine (rvalid_any _ _ _ _ _).mono ?_; rintro e w1 ⟨rfl, hb⟩; obtain ⟨hc, hf⟩ := bcell hb
      go_wp2_with fail
      refine (rvalid_any _ _ _ _ _).mono ?_; rintro e w2 ⟨rfl, hb2⟩; obtain ⟨hc2, hf2⟩ := bcell hb2
      go_wp2_with fail
      go_ret
      refine ⟨ret_bool ?_, bthen (bthen (balloc (balloc (bref _) _) _) hb) hb2⟩
      rw [Bool.eq_iff_iff, insideB_t, hv'.out, hu'.out]
      simp
    · rcases he : emptyB a b c d with _ | _
      all_goals
        have hv' := Lib.hid hv
        have hu' := Lib.hid hu
        have he' := Lib.hid he
        go_enter Try.func16, Try.ntmps16
        go_wp2_with fail
        refine (rvalid_any _ _ _ _ _).mono ?_; rintro e w1 ⟨rfl, hb⟩; obtain ⟨hc, hf⟩ := bcell hb
        obtain ⟨z0, z1⟩ := sz2 hb
        go_wp2_with fail
        refine (rvalid_any _ _ _ _ _).mono ?_; rintro e w2 ⟨rfl, hb2⟩; obtain ⟨hc2, hf2⟩ := bcell hb2
        have y0 := bmore hb2 z0
        have y1 := bmore hb2 z1
        go_wp2_with fail
        refine (rempty_any _ _ _ _ _).mono ?_; rintro e w3 ⟨rfl, hb3⟩; obtain ⟨hc3, hf3⟩ := bcell hb3
        go_wp2_with fail
        all_goals
          go_ret
          refine ⟨ret_bool ?_, bthen (bthen (bthen (balloc (balloc (bref _) _) _) hb) hb2) hb3⟩
          clear hc hf hc2 hf2 hc3 hf3
          have he2 := he'.out
          first | rw [emptyB_t] at he2 | rw [emptyB_f] at he2
          rw [Bool.eq_iff_iff, insideB_t, hv'.out, hu'.out]
          simp <;> omega
end Go.Proofs.Ytpbapamoihkaoaa
