/- Hull, of the program and of the reference, as contracts: what each returns; the world gets new blocks at most. -/
import Derived.Test.YtbdedlmpcdelfaaRInter
import Derived.Test.YtbdedlmpcdelfaaRPlainB
namespace Go.Proofs.Ytbdedlmpcdelfaa
open Go.ChangeShapes Go.WideShapes Go.ChangeAt Go.RowKit
set_option linter.unusedVariables false
set_option linter.unusedSimpArgs false

set_option maxHeartbeats 2000000 in
theorem hull_any (a b c d a' b' c' d' : Int) (w : World) :
    Calls Try.prog 22 #[.agg #[.int .i64 a, .int .i64 b, .int .i64 c, .int .i64 d], .agg #[.int .i64 a', .int .i64 b', .int .i64 c', .int .i64 d']] w (RcPost (hullR a b c d a' b' c' d') w) := by
  rcases hv : validB a b c d with _ | _
  · have hv' := Lib.hid hv
    go_enter Try.func22, Try.ntmps22
    go_wp2_with fail
    refine (valid_any _ _ _ _ _).mono ?_; rintro e w1 ⟨rfl, hb⟩; obtain ⟨hc, hf⟩ := bcell hb
    obtain ⟨z0, z1, z2, z3⟩ := sz3 hb
    go_wp2_with fail
    exact ret_rect Try.results22 rfl rfl (((There4.new _ _ _ _ _ _).at (by simp)).below hb) (by omega) (bthen (balloc (balloc (balloc (bref w) _) _) _) hb) (hull_u (.inl hv'.out))
  · rcases hu : validB a' b' c' d' with _ | _
    · have hv' := Lib.hid hv
      have hu' := Lib.hid hu
      go_enter Try.func22, Try.ntmps22
      go_wp2_with fail
      refine (valid_any _ _ _ _ _).mono ?_; rintro e w1 ⟨rfl, hb⟩; obtain ⟨hc, hf⟩ := bcell hb
      obtain ⟨z0, z1, z2, z3⟩ := sz3 hb
      go_wp2_with fail
      refine (valid_any _ _ _ _ _).mono ?_; rintro e w2 ⟨rfl, hb2⟩; obtain ⟨hc2, hf2⟩ := bcell hb2
      have y0 := bmore hb2 z0
      have y1 := bmore hb2 z1
      have y2 := bmore hb2 z2
      go_wp2_with fail
      exact ret_rect Try.results22 rfl rfl ((((There4.new _ _ _ _ _ _).at (by simp)).below hb).below hb2) (by omega) (bthen (bthen (balloc (balloc (balloc (bref w) _) _) _) hb) hb2) (hull_u (.inr hu'.out))
    · rcases he : emptyB a b c d with _ | _
      · rcases hx : emptyB a' b' c' d' with _ | _
        all_goals
          have hv' := Lib.hid hv
          have hu' := Lib.hid hu
          have he' := Lib.hid he
          have hx' := Lib.hid hx
          go_enter Try.func22, Try.ntmps22
          go_wp2_with fail
          refine (valid_any _ _ _ _ _).mono ?_; rintro e w1 ⟨rfl, hb⟩; obtain ⟨hc, hf⟩ := bcell hb
          obtain ⟨z0, z1, z2, z3⟩ := sz3 hb
          go_wp2_with fail
          refine (valid_any _ _ _ _ _).mono ?_; rintro e w2 ⟨rfl, hb2⟩; obtain ⟨hc2, hf2⟩ := bcell hb2
          have y0 := bmore hb2 z0
          have y1 := bmore hb2 z1
          have y2 := bmore hb2 z2
          go_wp2_with fail
          refine (empty_any _ _ _ _ _).mono ?_; rintro e w3 ⟨rfl, hb3⟩; obtain ⟨hc3, hf3⟩ := bcell hb3
          have x0 := bmore hb3 y0
          have x1 := bmore hb3 y1
          have x2 := bmore hb3 y2
          go_wp2_with fail
          refine (empty_any _ _ _ _ _).mono ?_; rintro e w4 ⟨rfl, hb4⟩; obtain ⟨hc4, hf4⟩ := bcell hb4
          have v0 := bmore hb4 x0
          have v1 := bmore hb4 x1
          have v2 := bmore hb4 x2
          go_wp2_with fail
          all_goals first
            | exact ret_rect Try.results22 rfl rfl ((((((There4.new _ _ _ _ _ _).at (by simp)).below hb).below hb2).below hb3).below hb4) (by omega) (bthen (bthen (bthen (bthen (balloc (balloc (balloc (bref w) _) _) _) hb) hb2) hb3) hb4) (hull_k hv'.out hu'.out he'.out hx'.out (by omega) (by omega) (by omega) (by omega))
            | exact ret_rect Try.results22 rfl rfl ((((((There4.new _ _ _ _ _ _).at (by simp)).below hb).below hb2).below hb3).below hb4) (by omega) (bthen (bthen (bthen (bthen (balloc (balloc (balloc (bref w) _) _) _) hb) hb2) hb3) hb4) (hull_b hv'.out hu'.out he'.out hx'.out)
      · have hv' := Lib.hid hv
        have hu' := Lib.hid hu
        have he' := Lib.hid he
        go_enter Try.func22, Try.ntmps22
        go_wp2_with fail
        refine (valid_any _ _ _ _ _).mono ?_; rintro e w1 ⟨rfl, hb⟩; obtain ⟨hc, hf⟩ := bcell hb
        obtain ⟨z0, z1, z2, z3⟩ := sz3 hb
        go_wp2_with fail
        refine (valid_any _ _ _ _ _).mono ?_; rintro e w2 ⟨rfl, hb2⟩; obtain ⟨hc2, hf2⟩ := bcell hb2
        have y0 := bmore hb2 z0
        have y1 := bmore hb2 z1
        have y2 := bmore hb2 z2
        go_wp2_with fail
        refine (empty_any _ _ _ _ _).mono ?_; rintro e w3 ⟨rfl, hb3⟩; obtain ⟨hc3, hf3⟩ := bcell hb3
        have x0 := bmore hb3 y0
        have x1 := bmore hb3 y1
        have x2 := bmore hb3 y2
        go_wp2_with fail
        exact ret_rect Try.results22 rfl rfl (((((There4.new _ _ _ _ _ _).at (by simp)).below hb).below hb2).below hb3) (by omega) (bthen (bthen (bthen (balloc (balloc (balloc (bref w) _) _) _) hb) hb2) hb3) (hull_a hv'.out hu'.out he'.out)
end Go.Proofs.Ytbdedlmpcdelfaa
