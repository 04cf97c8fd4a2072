/- Outset, of the program, as a contract: what it returns; the world gets new blocks at most. -/
import Derived.Test.YtbdedlmpcdelfaaRInter
import Derived.Test.YtbdedlmpcdelfaaRPlainB
import Derived.Deep.DeepCutAuto
namespace Go.Proofs.Ytbdedlmpcdelfaa
open Go.ChangeShapes Go.WideShapes Go.ChangeAt Go.RowKit
set_option linter.unusedVariables false
set_option linter.unusedSimpArgs false

theorem run_min_four {P : Program} (w : World) (ts : Array TypeId) (t : TypeId) (k k1 k2 k3 : IntKind) (x y z u : Int) : (Builtin.min_ ts t #[.int k x, .int k1 y, .int k2 z, .int k3 u]).run P w = .ok (.int k (min (min (min x y) z) u)) w := by
  have e : ∀ x y : Int, (if y < x then y else x) = min x y := fun x y => by split <;> omega
  show Result.ok (Value.int k _) w = _
  rw [e, e, e]
theorem run_max_four {P : Program} (w : World) (ts : Array TypeId) (t : TypeId) (k k1 k2 k3 : IntKind) (x y z u : Int) : (Builtin.max_ ts t #[.int k x, .int k1 y, .int k2 z, .int k3 u]).run P w = .ok (.int k (max (max (max x y) z) u)) w := by
  have e : ∀ x y : Int, (if y > x then y else x) = max x y := fun x y => by split <;> omega
  show Result.ok (Value.int k _) w = _
  rw [e, e, e]
attribute [local go_sem] run_min_four run_max_four
theorem full_ev {a b c d : Int} (h : emptyB a b c d = true) : fullB a b c d = false := by simp [fullB, h]
theorem full_vf {a b c d : Int} (h : validB a b c d = false) : fullB a b c d = false := by simp [fullB, h]
theorem full_t {a b c d : Int} (h : validB a b c d = true) (k : emptyB a b c d = false) : fullB a b c d = true := by simp [fullB, h, k]
theorem full_bd {a b c d : Int} (h : fullB a b c d = true) : -1048576 ≤ a ∧ a < c ∧ c ≤ 1048576 ∧ -1048576 ≤ b ∧ b < d ∧ d ≤ 1048576 := by
  simp only [fullB, Bool.and_eq_true, Bool.not_eq_true', validB_t, emptyB_f] at h
  omega
theorem full_both {a b c d : Int} (h : fullB a b c d = true) : validB a b c d = true ∧ emptyB a b c d = false := by
  simpa [fullB] using h
theorem nside_is (l t r u : Int) : (decide (min l (min t (min r u)) < 0) || decide (1048576 < max l (max t (max r u)))) = !sideB l t r u := by
  rw [Bool.eq_iff_iff, Bool.not_eq_true', sideB_f]
  simp only [Bool.or_eq_true, decide_eq_true_eq]
  omega
set_option maxHeartbeats 2000000 in
theorem out_any (a b c d l t r u : Int) (w : World) :
    Calls Try.prog 10 #[.agg #[.int .i64 a, .int .i64 b, .int .i64 c, .int .i64 d], .int .i64 l, .int .i64 t, .int .i64 r, .int .i64 u] w (RcPost (outR a b c d l t r u) w) := by
  rcases he : emptyB a b c d with _ | _
  · rcases hv : validB a b c d with _ | _
    · have he' := Lib.hid he
      have hv' := Lib.hid hv
      go_enter Try.func10, Try.ntmps10
      go_wp2_with fail
      refine (empty_any _ _ _ _ _).mono ?_; rintro e w1 ⟨rfl, hb⟩; obtain ⟨hc, hf⟩ := bcell hb
      obtain ⟨z0, z1⟩ := sz2 hb
      go_wp2_with fail
      refine (valid_any _ _ _ _ _).mono ?_; rintro e w2 ⟨rfl, hb2⟩; obtain ⟨hc2, hf2⟩ := bcell hb2
      have y0 := bmore hb2 z0
      have y1 := bmore hb2 z1
      go_wp2_with fail
      exact ret_rect Try.results10 rfl rfl ((((There4.new _ _ _ _ _ _).at (by simp)).below hb).below hb2) (by omega) (bthen (bthen (balloc (balloc (bref w) _) _) hb) hb2) (out_z (.inl (full_vf hv'.out)))
    · have he' := Lib.hid he
      have hv' := Lib.hid hv
      go_enter Try.func10, Try.ntmps10
      go_wp2_with fail
      refine (empty_any _ _ _ _ _).mono ?_; rintro e w1 ⟨rfl, hb⟩; obtain ⟨hc, hf⟩ := bcell hb
      obtain ⟨z0, z1⟩ := sz2 hb
      go_wp2_with fail
      refine (valid_any _ _ _ _ _).mono ?_; rintro e w2 ⟨rfl, hb2⟩; obtain ⟨hc2, hf2⟩ := bcell hb2
      have y0 := bmore hb2 z0
      have y1 := bmore hb2 z1
      go_upto_region 3 with fail
      go_cut [33] (fun s wx => s = .bool (!sideB l t r u) ∧ wx = w2)
      case first =>
        go_wp2_with fail
        all_goals go_meet
        · exact ⟨congrArg Value.bool (nside_is _ _ _ _), rfl⟩
        · refine ⟨congrArg Value.bool (.trans ?_ (nside_is _ _ _ _)), rfl⟩
          rw [eq_comm, Bool.or_eq_true]; left; rw [decide_eq_true_eq]; omega
      case rest =>
        obtain ⟨rfl, rfl⟩ := hcut
        rcases hs : sideB l t r u with _ | _
        · have hs' := Lib.hid hs
          go_wp2_with fail
          exact ret_rect Try.results10 rfl rfl ((((There4.new _ _ _ _ _ _).at (by simp)).below hb).below hb2) (by omega) (bthen (bthen (balloc (balloc (bref w) _) _) hb) hb2) (out_z (.inr hs'.out))
        · have hs' := Lib.hid hs
          obtain ⟨⟨l0, l1⟩, ⟨t0, t1⟩, ⟨r0, r1⟩, ⟨u0, u1⟩⟩ := sideB_t.1 hs
          obtain ⟨b0, b1, b2, b3, b4, b5⟩ := full_bd (full_t hv'.out he'.out)
          go_wp2_with fail
          refine (valid_any _ _ _ _ _).mono ?_; rintro e w3 ⟨rfl, hb3⟩; obtain ⟨hc3, hf3⟩ := bcell hb3
          go_wp2_with fail
          all_goals first
            | exact ret_rect Try.results10 rfl rfl ((((((There4.new _ _ _ _ _ _).at (by simp)).below hb).below hb2).alloc _).below hb3) (by omega) (bthen (balloc (bthen (bthen (balloc (balloc (bref w) _) _) hb) hb2) _) hb3) (out_t (full_t hv'.out he'.out) hs'.out (by assumption))
            | exact ret_rect Try.results10 rfl rfl ((((((There4.new _ _ _ _ _ _).at (by simp)).below hb).below hb2).alloc _).below hb3) (by omega) (bthen (balloc (bthen (bthen (balloc (balloc (bref w) _) _) hb) hb2) _) hb3) (out_f (by assumption))
  · have he' := Lib.hid he
    go_enter Try.func10, Try.ntmps10
    go_wp2_with fail
    refine (empty_any _ _ _ _ _).mono ?_; rintro e w1 ⟨rfl, hb⟩; obtain ⟨hc, hf⟩ := bcell hb
    obtain ⟨z0, z1⟩ := sz2 hb
    go_wp2_with fail
    exact ret_rect Try.results10 rfl rfl (((There4.new _ _ _ _ _ _).at (by simp)).below hb) (by omega) (bthen (balloc (balloc (bref w) _) _) hb) (out_z (.inl (full_ev he'.out)))
end Go.Proofs.Ytbdedlmpcdelfaa
