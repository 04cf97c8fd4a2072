/- Outset of the reference as a contract: what it returns; the world gets new blocks at most. -/
import Derived.Test.YtbdedlmpcdelfaaROut
namespace Go.Proofs.Ytbdedlmpcdelfaa
open Go.ChangeShapes Go.WideShapes Go.ChangeAt Go.RowKit
set_option linter.unusedVariables false
set_option linter.unusedSimpArgs false

theorem sz4o {w w1 : World} {o p q r : Obj} (h : Below ((((w.alloc o).alloc p).alloc q).alloc r).heap.size ((((w.alloc o).alloc p).alloc q).alloc r) w1) : w.heap.size < w1.heap.size ∧ w.heap.size + 1 < w1.heap.size ∧ w.heap.size + 1 + 1 < w1.heap.size ∧ w.heap.size + 1 + 1 + 1 < w1.heap.size := by have := h.size; simp at this; omega
theorem out_s {a b c d l t r u : Int} (h : ¬ (0 ≤ l ∧ l ≤ 1048576) ∨ ¬ (0 ≤ t ∧ t ≤ 1048576) ∨ ¬ (0 ≤ r ∧ r ≤ 1048576) ∨ ¬ (0 ≤ u ∧ u ≤ 1048576)) : Rc.mk 0 0 0 0 = ⟨(outR a b c d l t r u).x0, (outR a b c d l t r u).y0, (outR a b c d l t r u).x1, (outR a b c d l t r u).y1⟩ :=
  out_z (.inr (by rw [sideB_f]; omega))
set_option maxRecDepth 100000 in
set_option maxHeartbeats 4000000 in
theorem rout_any (a b c d l t r u : Int) (w : World) :
    Calls Try.prog 32 #[.agg #[.int .i64 a, .int .i64 b, .int .i64 c, .int .i64 d], .int .i64 l, .int .i64 t, .int .i64 r, .int .i64 u] w (RcPost (outR a b c d l t r u) w) := by
  rcases hs : sideB l t r u with _ | _
  · rw [sideB_f] at hs
    by_cases h0 : (0 ≤ l ∧ l ≤ 1048576)
    · obtain ⟨l0, l1⟩ := h0
      by_cases h1 : (0 ≤ t ∧ t ≤ 1048576)
      · obtain ⟨t0, t1⟩ := h1
        by_cases h2 : (0 ≤ r ∧ r ≤ 1048576)
        · obtain ⟨r0, r1⟩ := h2
          rcases (show u < 0 ∨ 1048576 < u by omega) with h3 | h3
          all_goals
            have hz := Lib.hid (out_s (a := a) (b := b) (c := c) (d := d) (l := l) (t := t) (r := r) (u := u) (by omega))
            clear hs
            go_enter Try.func32, Try.ntmps32
            go_wp2_with fail
            refine wp_loop_rounds 5 ?_
            repeat any_goals (rw [rounds_succ]; go_wp2_with fail)
            refine bodyPost_ret (v := .agg #[.int .i64 0, .int .i64 0, .int .i64 0, .int .i64 0]) (by simp [results, Try.results32, go_sem]) rfl ⟨ret_rc hz.out, balloc (balloc (balloc (bref w) _) _) _⟩
        · rcases (show r < 0 ∨ 1048576 < r by omega) with h3 | h3
          all_goals
            have hz := Lib.hid (out_s (a := a) (b := b) (c := c) (d := d) (l := l) (t := t) (r := r) (u := u) (by omega))
            clear hs h2
            go_enter Try.func32, Try.ntmps32
            go_wp2_with fail
            refine wp_loop_rounds 5 ?_
            repeat any_goals (rw [rounds_succ]; go_wp2_with fail)
            refine bodyPost_ret (v := .agg #[.int .i64 0, .int .i64 0, .int .i64 0, .int .i64 0]) (by simp [results, Try.results32, go_sem]) rfl ⟨ret_rc hz.out, balloc (balloc (balloc (bref w) _) _) _⟩
      · rcases (show t < 0 ∨ 1048576 < t by omega) with h3 | h3
        all_goals
          have hz := Lib.hid (out_s (a := a) (b := b) (c := c) (d := d) (l := l) (t := t) (r := r) (u := u) (by omega))
          clear hs h1
          go_enter Try.func32, Try.ntmps32
          go_wp2_with fail
          refine wp_loop_rounds 5 ?_
          repeat any_goals (rw [rounds_succ]; go_wp2_with fail)
          refine bodyPost_ret (v := .agg #[.int .i64 0, .int .i64 0, .int .i64 0, .int .i64 0]) (by simp [results, Try.results32, go_sem]) rfl ⟨ret_rc hz.out, balloc (balloc (balloc (bref w) _) _) _⟩
    · rcases (show l < 0 ∨ 1048576 < l by omega) with h3 | h3
      all_goals
        have hz := Lib.hid (out_s (a := a) (b := b) (c := c) (d := d) (l := l) (t := t) (r := r) (u := u) (by omega))
        clear hs h0
        go_enter Try.func32, Try.ntmps32
        go_wp2_with fail
        refine wp_loop_rounds 5 ?_
        repeat any_goals (rw [rounds_succ]; go_wp2_with fail)
        refine bodyPost_ret (v := .agg #[.int .i64 0, .int .i64 0, .int .i64 0, .int .i64 0]) (by simp [results, Try.results32, go_sem]) rfl ⟨ret_rc hz.out, balloc (balloc (balloc (bref w) _) _) _⟩
  · obtain ⟨⟨l0, l1⟩, ⟨t0, t1⟩, ⟨r0, r1⟩, ⟨u0, u1⟩⟩ := sideB_t.1 hs
    have hs' := Lib.hid hs
    clear hs
    rcases hf : fullB a b c d with _ | _
    · have hf' := Lib.hid hf
      go_enter Try.func32, Try.ntmps32
      go_wp2_with fail
      refine wp_loop_rounds 5 ?_
      repeat any_goals (rw [rounds_succ]; go_wp2_with fail)
      refine (full_any _ _ _ _ _).mono ?_; rintro e w1 ⟨rfl, hb⟩; obtain ⟨hc, hf⟩ := bcell hb
      obtain ⟨z0, z1, z2, z3⟩ := sz4o hb
      go_wp2_with fail
      exact ret_rect Try.results32 rfl rfl (((((There4.new _ _ _ _ _ _).at (by simp)).alloc _).alloc _).below hb) (by omega) (bthen (balloc (balloc (balloc (balloc (bref w) _) _) _) _) hb) (out_z (.inl hf'.out))
    · obtain ⟨b0, b1, b2, b3, b4, b5⟩ := full_bd hf
      have hf' := Lib.hid hf
      go_enter Try.func32, Try.ntmps32
      go_wp2_with fail
      refine wp_loop_rounds 5 ?_
      repeat any_goals (rw [rounds_succ]; go_wp2_with fail)
      refine (full_any _ _ _ _ _).mono ?_; rintro e w1 ⟨rfl, hb⟩; obtain ⟨hc, hf⟩ := bcell hb
      obtain ⟨z0, z1, z2, z3⟩ := sz4o hb
      go_wp2_with fail
      refine (rvalid_any _ _ _ _ _).mono ?_; rintro e w2 ⟨rfl, hb2⟩; obtain ⟨hc2, hf2⟩ := bcell hb2
      have y0 := bmore hb2 z0
      have y1 := bmore hb2 z1
      have y2 := bmore hb2 z2
      have y3 := bmore hb2 z3
      go_wp2_with fail
      all_goals first
        | exact ret_rect Try.results32 rfl rfl ((((((There4.new _ _ _ _ _ _).at (by simp)).alloc _).alloc _).below hb).below hb2) (by omega) (bthen (bthen (balloc (balloc (balloc (balloc (bref w) _) _) _) _) hb) hb2) (out_t hf'.out hs'.out (by assumption))
        | exact ret_rect Try.results32 rfl rfl ((((((There4.new _ _ _ _ _ _).at (by simp)).alloc _).alloc _).below hb).below hb2) (by omega) (bthen (bthen (balloc (balloc (balloc (balloc (bref w) _) _) _) _) hb) hb2) (out_f (by assumption))
end Go.Proofs.Ytbdedlmpcdelfaa
