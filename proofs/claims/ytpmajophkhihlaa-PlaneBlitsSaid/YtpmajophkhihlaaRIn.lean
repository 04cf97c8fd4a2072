/- Inside of the program as a contract: what it returns; the world gets new blocks at most. -/
import Derived.Test.YtpmajophkhihlaaRInter
import Derived.Test.YtpmajophkhihlaaRPlainB
import Derived.Deep.DeepCutAuto
namespace Go.Proofs.Ytpmajophkhihlaa
open Go.ChangeShapes Go.WideShapes Go.ChangeAt Go.RowKit
set_option linter.unusedVariables false
set_option linter.unusedSimpArgs false

/-- two rectangles lie in two blocks, and only new blocks have come since -/
abbrev InS (w : World) (p q : Nat) (a b c d a' b' c' d' : Int) (w' : World) : Prop :=
  Below w.heap.size w w' ∧ w'.cell? ⟨p, 0, none⟩ = some (.int .i64 a) ∧ w'.cell? ⟨p, 1, none⟩ = some (.int .i64 b) ∧ w'.cell? ⟨p, 2, none⟩ = some (.int .i64 c) ∧ w'.cell? ⟨p, 3, none⟩ = some (.int .i64 d) ∧
    w'.cell? ⟨q, 0, none⟩ = some (.int .i64 a') ∧ w'.cell? ⟨q, 1, none⟩ = some (.int .i64 b') ∧ w'.cell? ⟨q, 2, none⟩ = some (.int .i64 c') ∧ w'.cell? ⟨q, 3, none⟩ = some (.int .i64 d')
theorem inS_keep {w : World} {p q : Nat} {a b c d a' b' c' d' : Int} {w1 w2 : World} (hb : Below w1.heap.size w1 w2) (h : InS w p q a b c d a' b' c' d' w1) : InS w p q a b c d a' b' c' d' w2 := by
  obtain ⟨h0, h1, h2, h3, h4, h5, h6, h7, h8⟩ := h
  exact ⟨bthen h0 hb, bkeep hb h1, bkeep hb h2, bkeep hb h3, bkeep hb h4, bkeep hb h5, bkeep hb h6, bkeep hb h7, bkeep hb h8⟩
theorem inS_start (w : World) (a b c d a' b' c' d' : Int) (t t' : TypeId) :
    InS w w.heap.size (w.heap.size + 1) a b c d a' b' c' d' ((w.alloc (.cells #[.int .i64 a, .int .i64 b, .int .i64 c, .int .i64 d] t)).alloc (.cells #[.int .i64 a', .int .i64 b', .int .i64 c', .int .i64 d'] t')).drew := by
  refine ⟨(balloc (balloc (bref w) _) _).drew, ?_, ?_, ?_, ?_, ?_, ?_, ?_, ?_⟩ <;> go_cell
theorem valid_is {a b c d : Int} {v : Bool} (h : validB a b c d = v) (w : World) : Calls Try.prog 52 #[.agg #[.int .i64 a, .int .i64 b, .int .i64 c, .int .i64 d]] w (TestPost v w) := h ▸ valid_any a b c d w
/-- a rectangle that is known came back -/
theorem inter_is {a b c d a' b' c' d' p q r s : Int} (h : interR a b c d a' b' c' d' = ⟨p, q, r, s⟩) (w : World) : Calls Try.prog 53 #[.agg #[.int .i64 a, .int .i64 b, .int .i64 c, .int .i64 d], .agg #[.int .i64 a', .int .i64 b', .int .i64 c', .int .i64 d']] w
    fun e w' => e = .returned (.agg #[.int .i64 p, .int .i64 q, .int .i64 r, .int .i64 s]) ∧ Below w.heap.size w w' := by
  have := inter_any a b c d a' b' c' d' w
  unfold RcPost at this
  rw [h] at this
  exact this
theorem inside_u {a b c d a' b' c' d' : Int} (h : validB a b c d = false ∨ validB a' b' c' d' = false) : false = insideB a b c d a' b' c' d' := by
  rw [eq_comm, Bool.eq_false_iff]
  intro k
  rw [insideB_t] at k
  rcases h with h | h <;> simp_all
theorem inside_eq {a b c d a' b' c' d' p q r s : Int} (hv : validB a b c d = true) (hu : validB a' b' c' d' = true) (h : interR a b c d a' b' c' d' = ⟨p, q, r, s⟩) : insideB a b c d a' b' c' d' = decide (p = a ∧ q = b ∧ r = c ∧ s = d) := by
  have hv2 := validB_t.1 hv
  have hu2 := validB_t.1 hu
  rw [Bool.eq_iff_iff, insideB_t, decide_eq_true_eq]
  unfold interR at h
  split at h <;> rw [Rc.mk.injEq] at h
  · rename_i hk
    have := hk.2.2
    simp only [hv, hu, true_and]
    omega
  · rename_i hk
    have : ¬ (max a a' < min c c' ∧ max b b' < min d d') := fun hh => hk ⟨hv, hu, hh.1, hh.2⟩
    simp only [hv, hu, true_and]
    omega

set_option maxHeartbeats 4000000 in
theorem inside_any (a b c d a' b' c' d' : Int) (w : World) :
    Calls Try.prog 34 #[.agg #[.int .i64 a, .int .i64 b, .int .i64 c, .int .i64 d], .agg #[.int .i64 a', .int .i64 b', .int .i64 c', .int .i64 d']] w (TestPost (insideB a b c d a' b' c' d') w) := by
  rcases hv : validB a b c d with _ | _
  · have hv' := Lib.hid hv
    have hx := Lib.hid (inside_u (a := a) (b := b) (c := c) (d := d) (a' := a') (b' := b') (c' := c') (d' := d') (.inl hv))
    clear hv
    go_enter Try.func34, Try.ntmps34
    go_upto_region 1 with fail
    go_region_with (go_at_call 52; refine (valid_is hv'.out _).mono ?_; rintro e w1 ⟨rfl, hb⟩)
    all_goals
      go_wp2_with fail
      go_ret
      exact ⟨ret_bool hx.out, bthen (balloc (balloc (bref w) _) _).drew hb⟩
  · rcases hu : validB a' b' c' d' with _ | _
    · have hv' := Lib.hid hv
      have hu' := Lib.hid hu
      have hx := Lib.hid (inside_u (a := a) (b := b) (c := c) (d := d) (a' := a') (b' := b') (c' := c') (d' := d') (.inr hu))
      clear hv hu
      go_enter Try.func34, Try.ntmps34
      go_upto_region 1 with fail
      go_region_with (first
        | (go_at_call_of 52 (Value.agg #[.int .i64 a, .int .i64 b, .int .i64 c, .int .i64 d]); refine (valid_is hv'.out _).mono ?_; rintro e w1 ⟨rfl, hb⟩; obtain ⟨hc, hf⟩ := bcell hb; obtain ⟨z0, z1⟩ := sz2d hb)
        | (go_at_call_of 52 (Value.agg #[.int .i64 a', .int .i64 b', .int .i64 c', .int .i64 d']); refine (valid_is hu'.out _).mono ?_; rintro e w2 ⟨rfl, hb2⟩))
      all_goals
        go_wp2_with fail
        go_ret
        exact ⟨ret_bool hx.out, bthen (bthen (balloc (balloc (bref w) _) _).drew hb) hb2⟩
    · obtain ⟨p, q, r, s, hR⟩ : ∃ p q r s, interR a b c d a' b' c' d' = ⟨p, q, r, s⟩ := ⟨_, _, _, _, rfl⟩
      have hx := Lib.hid (inside_eq hv hu hR)
      have hv' := Lib.hid hv
      have hu' := Lib.hid hu
      have hR' := Lib.hid hR
      clear hv hu hR
      by_cases e0 : p = a
      · subst e0
        by_cases e1 : q = b
        · subst e1
          by_cases e2 : r = c
          · subst e2
            by_cases e3 : s = d
            · subst e3
              go_enter Try.func34, Try.ntmps34
              go_upto_region 1 with fail
              have hS := inS_start w p q r s a' b' c' d' 31 31
              go_region_held3 (fun w' => InS w w.heap.size (w.heap.size + 1) p q r s a' b' c' d' w') ((first | exact hS | exact inS_keep hb ‹_›))
                (first
                  | (go_at_call_of 52 (Value.agg #[.int .i64 p, .int .i64 q, .int .i64 r, .int .i64 s]); refine (valid_is hv'.out _).mono ?_; rintro e w1 ⟨rfl, hb⟩)
                  | (go_at_call 52; refine (valid_is hu'.out _).mono ?_; rintro e w1 ⟨rfl, hb⟩)
                  | (go_at_call 53; refine (inter_is hR'.out _).mono ?_; rintro e w1 ⟨rfl, hb⟩))
              all_goals
                go_wp2_with fail
                go_ret
                refine ⟨ret_bool ?_, ?_⟩
                · rw [hx.out]; simp
                · exact (‹InS w w.heap.size (w.heap.size + 1) p q r s a' b' c' d' w1›).1
            · go_enter Try.func34, Try.ntmps34
              go_upto_region 1 with fail
              have hS := inS_start w p q r d a' b' c' d' 31 31
              go_region_held3 (fun w' => InS w w.heap.size (w.heap.size + 1) p q r d a' b' c' d' w') ((first | exact hS | exact inS_keep hb ‹_›))
                (first
                  | (go_at_call_of 52 (Value.agg #[.int .i64 p, .int .i64 q, .int .i64 r, .int .i64 d]); refine (valid_is hv'.out _).mono ?_; rintro e w1 ⟨rfl, hb⟩)
                  | (go_at_call 52; refine (valid_is hu'.out _).mono ?_; rintro e w1 ⟨rfl, hb⟩)
                  | (go_at_call 53; refine (inter_is hR'.out _).mono ?_; rintro e w1 ⟨rfl, hb⟩))
              all_goals
                go_wp2_with fail
                go_ret
                refine ⟨ret_bool ?_, ?_⟩
                · rw [hx.out]; simp [e3]
                · exact (‹InS w w.heap.size (w.heap.size + 1) p q r d a' b' c' d' w1›).1
          · go_enter Try.func34, Try.ntmps34
            go_upto_region 1 with fail
            have hS := inS_start w p q c d a' b' c' d' 31 31
            go_region_held3 (fun w' => InS w w.heap.size (w.heap.size + 1) p q c d a' b' c' d' w') ((first | exact hS | exact inS_keep hb ‹_›))
              (first
                | (go_at_call_of 52 (Value.agg #[.int .i64 p, .int .i64 q, .int .i64 c, .int .i64 d]); refine (valid_is hv'.out _).mono ?_; rintro e w1 ⟨rfl, hb⟩)
                | (go_at_call 52; refine (valid_is hu'.out _).mono ?_; rintro e w1 ⟨rfl, hb⟩)
                | (go_at_call 53; refine (inter_is hR'.out _).mono ?_; rintro e w1 ⟨rfl, hb⟩))
            all_goals
              go_wp2_with fail
              go_ret
              refine ⟨ret_bool ?_, ?_⟩
              · rw [hx.out]; simp [e2]
              · exact (‹InS w w.heap.size (w.heap.size + 1) p q c d a' b' c' d' w1›).1
        · go_enter Try.func34, Try.ntmps34
          go_upto_region 1 with fail
          have hS := inS_start w p b c d a' b' c' d' 31 31
          go_region_held3 (fun w' => InS w w.heap.size (w.heap.size + 1) p b c d a' b' c' d' w') ((first | exact hS | exact inS_keep hb ‹_›))
            (first
              | (go_at_call_of 52 (Value.agg #[.int .i64 p, .int .i64 b, .int .i64 c, .int .i64 d]); refine (valid_is hv'.out _).mono ?_; rintro e w1 ⟨rfl, hb⟩)
              | (go_at_call 52; refine (valid_is hu'.out _).mono ?_; rintro e w1 ⟨rfl, hb⟩)
              | (go_at_call 53; refine (inter_is hR'.out _).mono ?_; rintro e w1 ⟨rfl, hb⟩))
          all_goals
            go_wp2_with fail
            go_ret
            refine ⟨ret_bool ?_, ?_⟩
            · rw [hx.out]; simp [e1]
            · exact (‹InS w w.heap.size (w.heap.size + 1) p b c d a' b' c' d' w1›).1
      · go_enter Try.func34, Try.ntmps34
        go_upto_region 1 with fail
        have hS := inS_start w a b c d a' b' c' d' 31 31
        go_region_held3 (fun w' => InS w w.heap.size (w.heap.size + 1) a b c d a' b' c' d' w') ((first | exact hS | exact inS_keep hb ‹_›))
          (first
            | (go_at_call_of 52 (Value.agg #[.int .i64 a, .int .i64 b, .int .i64 c, .int .i64 d]); refine (valid_is hv'.out _).mono ?_; rintro e w1 ⟨rfl, hb⟩)
            | (go_at_call 52; refine (valid_is hu'.out _).mono ?_; rintro e w1 ⟨rfl, hb⟩)
            | (go_at_call 53; refine (inter_is hR'.out _).mono ?_; rintro e w1 ⟨rfl, hb⟩))
        all_goals
          go_wp2_with fail
          go_ret
          refine ⟨ret_bool ?_, ?_⟩
          · rw [hx.out]; simp [e0]
          · exact (‹InS w w.heap.size (w.heap.size + 1) a b c d a' b' c' d' w1›).1
end Go.Proofs.Ytpmajophkhihlaa
