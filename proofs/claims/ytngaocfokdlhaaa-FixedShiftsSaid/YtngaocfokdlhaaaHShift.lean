/- Shift, Clamp and Span of the reference as contracts: what each returns; they leave the world as it is. -/
import Derived.Test.YtngaocfokdlhaaaHPlain
namespace Go.Proofs.Ytngaocfokdlhaaa
open Go.ChangeShapes Go.WideShapes Go.ChangeAt Go.RowKit
set_option linter.unusedVariables false
set_option linter.unusedSimpArgs false

theorem racc_any (n : Int) (w : World) : Calls Try.prog 24 #[.int .i64 n] w fun e w' => e = .returned (.bool (accB n)) ∧ w = w' := by
  go_enter Try.func24, Try.ntmps24
  go_wp2
  all_goals
    go_ret
    refine ⟨ret_bool ?_, rfl⟩
    rw [Bool.eq_iff_iff, accB_t]; simp <;> omega
theorem rshiftB_any (n : Int) (w : World) : Calls Try.prog 25 #[.int .i64 n] w fun e w' => e = .returned (.bool (shiftB n)) ∧ w = w' := by
  go_enter Try.func25, Try.ntmps25
  go_wp2
  all_goals
    go_ret
    refine ⟨ret_bool ?_, rfl⟩
    rw [Bool.eq_iff_iff, shiftB_t]; simp <;> omega
theorem rweightB_any (n : Int) (w : World) : Calls Try.prog 27 #[.int .i64 n] w fun e w' => e = .returned (.bool (weightB n)) ∧ w = w' := by
  go_enter Try.func27, Try.ntmps27
  go_wp2
  all_goals
    go_ret
    refine ⟨ret_bool ?_, rfl⟩
    rw [Bool.eq_iff_iff, weightB_t]; simp <;> omega
theorem racc_is {n : Int} {b : Bool} (h : accB n = b) (w : World) : Calls Try.prog 24 #[.int .i64 n] w fun e w' => e = .returned (.bool b) ∧ w = w' := by rw [← h]; exact racc_any n w
theorem rshiftB_is {n : Int} {b : Bool} (h : shiftB n = b) (w : World) : Calls Try.prog 25 #[.int .i64 n] w fun e w' => e = .returned (.bool b) ∧ w = w' := by rw [← h]; exact rshiftB_any n w
theorem rweightB_is {n : Int} {b : Bool} (h : weightB n = b) (w : World) : Calls Try.prog 27 #[.int .i64 n] w fun e w' => e = .returned (.bool b) ∧ w = w' := by rw [← h]; exact rweightB_any n w
/-- a number came back, and nothing else -/
def SamePost (n : Int) (w : World) (e : Ending) (w' : World) : Prop := e = .returned (.int .i64 n) ∧ w = w'
theorem rclamp_any (v m : Int) (w : World) : Calls Try.prog 13 #[.int .i64 v, .int .i64 m] w (SamePost (clampN v m) w) := by
  go_enter Try.func13, Try.ntmps13
  go_wp2_with fail
  all_goals
    go_ret
    refine ⟨ret_int ?_, rfl⟩
    unfold clampN
    (try simp at *)
    (repeat' split) <;> omega
/-- the walk of Shift where it is not 0 -/
theorem rshift_walk (a s n d q t : Int) (w : World) (ha : Hid (accB a = true)) (hs : Hid (shiftB s = true)) (h0 : 1 ≤ s) (h1 : s ≤ 24) (a0 : -17592186044416 ≤ a ∧ a ≤ 17592186044416) (z0 : (s == 0) = false) (H : Int) (eH : wrap64 (2 ^ (s.toNat - 1)) = H) (hH : 1 ≤ H ∧ H ≤ 8388608) (eD : wrap64 (2 ^ s.toNat) = d) (hd : 1 ≤ d) (hd0 : ¬ d = 0)
    (en : a + H = n) (eq : n.tdiv d = q) (et : q * d = t) (hq : -17592194433024 ≤ q ∧ q ≤ 17592194433024) (ht : -35184372088832 ≤ t ∧ t ≤ 35184372088832) (hn : Hid (shiftN a s = if n < t then q - 1 else q)) :
    Calls Try.prog 11 #[.int .i64 a, .int .i64 s] w (SamePost (shiftN a s) w) := by
  by_cases g : n < t
  · have hr := Lib.hid (hn.out.trans (if_pos g))
    go_enter Try.func11, Try.ntmps11
    go_wp2_with fail
    refine (racc_is ha.out _).mono ?_; rintro e w1 ⟨rfl, rfl⟩
    go_wp2_with fail
    refine (rshiftB_is hs.out _).mono ?_; rintro e w1 ⟨rfl, rfl⟩
    go_wp2_with fail
    go_ret
    exact ⟨ret_int hr.out.symm, rfl⟩
  · have hr := Lib.hid (hn.out.trans (if_neg g))
    go_enter Try.func11, Try.ntmps11
    go_wp2_with fail
    refine (racc_is ha.out _).mono ?_; rintro e w1 ⟨rfl, rfl⟩
    go_wp2_with fail
    refine (rshiftB_is hs.out _).mono ?_; rintro e w1 ⟨rfl, rfl⟩
    go_wp2_with fail
    go_ret
    exact ⟨ret_int hr.out.symm, rfl⟩
theorem wrap_in {n : Int} (h0 : -9223372036854775808 ≤ n) (h1 : n ≤ 9223372036854775807) : wrap64 n = n := by unfold wrap64; omega
/-- a quotient times its divisor is near the number -/
theorem quo_bd {n d : Int} (hd : 1 ≤ d) (B : Int) (hn : -B ≤ n ∧ n ≤ B) : (-B ≤ n.tdiv d ∧ n.tdiv d ≤ B) ∧ (-B ≤ n.tdiv d * d ∧ n.tdiv d * d ≤ B) := by
  have h1 := Int.tmod_add_mul_tdiv n d
  have c : d * n.tdiv d = n.tdiv d * d := Int.mul_comm _ _
  rw [c] at h1
  have e : ∀ m : Int, 0 ≤ m → 0 ≤ m.tdiv d ∧ m.tdiv d ≤ m ∧ 0 ≤ m.tdiv d * d ∧ m.tdiv d * d ≤ m := fun m hm => by
    rw [Int.tdiv_eq_ediv_of_nonneg hm]
    have a1 := Int.ediv_nonneg hm (show 0 ≤ d by omega)
    exact ⟨a1, Int.ediv_le_self _ hm, Int.mul_nonneg a1 (by omega), Int.ediv_mul_le _ (by omega)⟩
  rcases Int.lt_or_le n 0 with g | g
  · have h2 := e (-n) (by omega)
    rw [Int.neg_tdiv, Int.neg_mul] at h2
    omega
  · have h2 := e n g
    omega
theorem rshift_any (a s : Int) (w : World) : Calls Try.prog 11 #[.int .i64 a, .int .i64 s] w (SamePost (shiftN a s) w) := by
  rcases ha : accB a with _ | _
  · have HA := Lib.hid ha
    have hr := Lib.hid (shift_no (a := a) (s := s) (.inl ha))
    clear ha
    go_enter Try.func11, Try.ntmps11
    go_wp2_with fail
    refine (racc_is HA.out _).mono ?_; rintro e w1 ⟨rfl, rfl⟩
    go_wp2_with fail
    go_ret
    exact ⟨ret_int hr.out.symm, rfl⟩
  · rcases hs : shiftB s with _ | _
    · have HA := Lib.hid ha
      have HS := Lib.hid hs
      have hr := Lib.hid (shift_no (a := a) (s := s) (.inr hs))
      clear ha hs
      go_enter Try.func11, Try.ntmps11
      go_wp2_with fail
      refine (racc_is HA.out _).mono ?_; rintro e w1 ⟨rfl, rfl⟩
      go_wp2_with fail
      refine (rshiftB_is HS.out _).mono ?_; rintro e w1 ⟨rfl, rfl⟩
      go_wp2_with fail
      go_ret
      exact ⟨ret_int hr.out.symm, rfl⟩
    · by_cases h0 : s = 0
      · subst h0
        have HA := Lib.hid ha
        have HS := Lib.hid hs
        have hr := Lib.hid (shift_zero ha)
        clear ha hs
        go_enter Try.func11, Try.ntmps11
        go_wp2_with fail
        refine (racc_is HA.out _).mono ?_; rintro e w1 ⟨rfl, rfl⟩
        go_wp2_with fail
        refine (rshiftB_is HS.out _).mono ?_; rintro e w1 ⟨rfl, rfl⟩
        go_wp2_with fail
        go_ret
        exact ⟨ret_int hr.out.symm, rfl⟩
      · have a0 := accB_t.1 ha
        have s0 := shiftB_t.1 hs
        have p1 := pow_s (s := s - 1) (by omega)
        have p2 := pow_s (s := s) (by omega)
        have e1 : (s - 1).toNat = s.toNat - 1 := by omega
        have ee : (2 : Int) ^ s.toNat = 2 * 2 ^ (s - 1).toNat := by
          rw [show s.toNat = (s - 1).toNat + 1 by omega, Int.pow_succ]; omega
        have hr := shift_some ha hs h0
        obtain ⟨H, eH⟩ : ∃ H : Int, 2 ^ (s - 1).toNat = H := ⟨_, rfl⟩
        obtain ⟨d, ed⟩ : ∃ d : Int, 2 ^ s.toNat = d := ⟨_, rfl⟩
        rw [eH, ed] at hr
        rw [eH, ed] at ee
        rw [eH] at p1
        rw [ed] at p2
        obtain ⟨b1, b2⟩ := quo_bd (n := a + H) (d := d) (by omega) 17592194433024 (by omega)
        have hf := quo_fix (n := a + H) (d := d) (by omega)
        refine rshift_walk a s (a + H) d ((a + H).tdiv d) _ w (Lib.hid ha) (Lib.hid hs) (by omega) (by omega) a0 (by simpa using h0) H (by rw [← e1, eH]; exact wrap_in (by omega) (by omega)) (by omega) (by rw [ed]; exact wrap_in (by omega) (by omega)) (by omega) (by omega) rfl rfl rfl b1 (by omega) (Lib.hid ?_)
        rw [hr]
        split
        · exact hf.1 (by omega)
        · exact hf.2 (by omega)
theorem rshift_is {a s n : Int} (h : shiftN a s = n) (w : World) : Calls Try.prog 11 #[.int .i64 a, .int .i64 s] w fun e w' => e = .returned (.int .i64 n) ∧ w = w' := by
  have := rshift_any a s w
  unfold SamePost at this
  rw [h] at this; exact this
/-- what Span leaves -/
def SpanPost (lo hi s : Int) (w : World) (e : Ending) (w' : World) : Prop := e = .returned (.tuple #[.int .i64 (shiftN lo s), .int .i64 (shiftN hi s)]) ∧ w = w'
theorem rspan_any (lo hi s : Int) (w : World) : Calls Try.prog 9 #[.int .i64 lo, .int .i64 hi, .int .i64 s] w (SpanPost lo hi s w) := by
  obtain ⟨m, em⟩ : ∃ m, shiftN lo s = m := ⟨_, rfl⟩
  obtain ⟨n, en⟩ : ∃ n, shiftN hi s = n := ⟨_, rfl⟩
  have Em := Lib.hid em
  have En := Lib.hid en
  clear em en
  go_enter Try.func9, Try.ntmps9
  go_wp2_with fail
  refine (rshift_is Em.out _).mono ?_; rintro e w1 ⟨rfl, rfl⟩
  go_wp2_with fail
  refine (rshift_is En.out _).mono ?_; rintro e w1 ⟨rfl, rfl⟩
  go_wp2_with fail
  go_returns
  unfold SpanPost
  rw [Em.out, En.out]; exact ⟨rfl, rfl⟩
end Go.Proofs.Ytngaocfokdlhaaa
