/- Intersect of the reference as a contract: what it returns; the world gets new blocks at most. -/
import Derived.Test.YtpbapamoihkaoaaRInter
import Derived.Test.YtpbapamoihkaoaaRPlainB
import Derived.Deep.DeepCutAuto
namespace Go.Proofs.Ytpbapamoihkaoaa
open Go.ChangeShapes Go.WideShapes Go.ChangeAt Go.RowKit
set_option linter.unusedVariables false
set_option linter.unusedSimpArgs false

theorem sz4 {w w1 : World} {o p q r : Obj} (h : Below ((((w.alloc o).alloc p).alloc q).alloc r).heap.size ((((w.alloc o).alloc p).alloc q).alloc r) w1) : w.heap.size < w1.heap.size ∧ w.heap.size + 1 < w1.heap.size ∧ w.heap.size + 1 + 1 < w1.heap.size ∧ w.heap.size + 1 + 1 + 1 < w1.heap.size := by have := h.size; simp at this; omega
set_option maxHeartbeats 2000000 in
theorem rinter_any (a b c d a' b' c' d' : Int) (w : World) :
    Calls Try.prog 21 #[.agg #[.int .i64 a, .int .i64 b, .int .i64 c, .int .i64 d], .agg #[.int .i64 a', .int .i64 b', .int .i64 c', .int .i64 d']] w (RcPost (interR a b c d a' b' c' d') w) := by
  go_enter Try.func21, Try.ntmps21
  go_upto_region 1 with fail
  go_cut [5] (fun s5 wx => ∃ p q r s : Int, p = max a a' ∧ q = max b b' ∧ r = min c c' ∧ s = min d d' ∧ s5 = .pointer (some ⟨w.heap.size + 1 + 1 + 1, 0, none⟩) ∧
    wx = (((w.alloc (.cells #[.int .i64 a, .int .i64 b, .int .i64 c, .int .i64 d] 31)).alloc (.cells #[.int .i64 a', .int .i64 b', .int .i64 c', .int .i64 d'] 31)).alloc (.cells #[.int .i64 0, .int .i64 0, .int .i64 0, .int .i64 0] 31)).alloc (.cells #[.int .i64 p, .int .i64 q, .int .i64 r, .int .i64 s] 31))
  case first =>
    go_wp2_with fail
    all_goals (go_meet; exact ⟨_, _, _, _, by omega, by omega, by omega, by omega, rfl, rfl⟩)
  case rest =>
    obtain ⟨p, q, r, s, hp, hq, hr, hs, rfl, rfl⟩ := hcut
    have hp' := Lib.hid hp
    have hq' := Lib.hid hq
    have hr' := Lib.hid hr
    have hs' := Lib.hid hs
    clear hp hq hr hs
    rcases hv : validB a b c d with _ | _
    · have hv' := Lib.hid hv
      go_wp2_with fail
      refine (rvalid_any _ _ _ _ _).mono ?_; rintro e w1 ⟨rfl, hb⟩; obtain ⟨hc, hf⟩ := bcell hb
      obtain ⟨z0, z1, z2, z3⟩ := sz4 hb
      go_wp2_with fail
      exact ret_rect Try.results21 rfl rfl ((((There4.new _ _ _ _ _ _).at (by simp)).alloc _).below hb) (by omega) (bthen (balloc (balloc (balloc (balloc (bref w) _) _) _) _) hb) (inter_u (.inl hv'.out))
    · rcases hu : validB a' b' c' d' with _ | _
      · have hv' := Lib.hid hv
        have hu' := Lib.hid hu
        go_wp2_with fail
        refine (rvalid_any _ _ _ _ _).mono ?_; rintro e w1 ⟨rfl, hb⟩; obtain ⟨hc, hf⟩ := bcell hb
        obtain ⟨z0, z1, z2, z3⟩ := sz4 hb
        go_wp2_with fail
        refine (rvalid_any _ _ _ _ _).mono ?_; rintro e w2 ⟨rfl, hb2⟩; obtain ⟨hc2, hf2⟩ := bcell hb2
        have y0 := bmore hb2 z0
        have y1 := bmore hb2 z1
        have y2 := bmore hb2 z2
        have y3 := bmore hb2 z3
        go_wp2_with fail
        exact ret_rect Try.results21 rfl rfl (((((There4.new _ _ _ _ _ _).at (by simp)).alloc _).below hb).below hb2) (by omega) (bthen (bthen (balloc (balloc (balloc (balloc (bref w) _) _) _) _) hb) hb2) (inter_u (.inr hu'.out))
      · have hv' := Lib.hid hv
        have hu' := Lib.hid hu
        go_wp2_with fail
        refine (rvalid_any _ _ _ _ _).mono ?_; rintro e w1 ⟨rfl, hb⟩; obtain ⟨hc, hf⟩ := bcell hb
        obtain ⟨z0, z1, z2, z3⟩ := sz4 hb
        go_wp2_with fail
        refine (rvalid_any _ _ _ _ _).mono ?_; rintro e w2 ⟨rfl, hb2⟩; obtain ⟨hc2, hf2⟩ := bcell hb2
        have y0 := bmore hb2 z0
        have y1 := bmore hb2 z1
        have y2 := bmore hb2 z2
        have y3 := bmore hb2 z3
        go_wp2_with fail
        all_goals first
          | exact ret_rect Try.results21 rfl rfl (((((There4.new _ _ _ _ _ _).at (by simp)).alloc _).below hb).below hb2) (by omega) (bthen (bthen (balloc (balloc (balloc (balloc (bref w) _) _) _) _) hb) hb2) (rinter_t hv'.out hu'.out hp'.out hq'.out hr'.out hs'.out (by omega))
          | exact ret_rect Try.results21 rfl rfl (((((There4.new _ _ _ _ _ _).at (by simp)).alloc _).below hb).below hb2) (by omega) (bthen (bthen (balloc (balloc (balloc (balloc (bref w) _) _) _) _) hb) hb2) (rinter_f hp'.out hq'.out hr'.out hs'.out (by omega))
end Go.Proofs.Ytpbapamoihkaoaa
