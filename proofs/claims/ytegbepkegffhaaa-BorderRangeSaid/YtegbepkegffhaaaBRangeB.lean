/- The contract of Range of package border: its three results are the bounds of the range, for all integers. -/
import Derived.Test.YtegbepkegffhaaaBRange
import Derived.OwnWalk
namespace Go.Proofs.Ytegbepkegffhaaa
open Go.ChangeShapes Go.WideShapes Go.ChangeAt Go.RowKit
set_option linter.unusedVariables false
set_option linter.unusedSimpArgs false

theorem range_far {a b n p : Int} (h : ¬ (InC a ∧ InC b)) : RangeIs a b n p 0 0 false := .inr ⟨rfl, rfl, rfl, .inl h⟩
theorem range_void {a b n p : Int} (h : b ≤ a) : RangeIs a b n p 0 0 false := .inr ⟨rfl, rfl, rfl, .inr fun i h1 h2 => by omega⟩
theorem range_len {a b n p : Int} (h : n < 1 ∨ 128 < n) : RangeIs a b n p 0 0 false := .inr ⟨rfl, rfl, rfl, .inr fun i _ _ => idx_len h⟩
theorem range_pol {a b n p : Int} (h : p < 0 ∨ 3 < p) : RangeIs a b n p 0 0 false := .inr ⟨rfl, rfl, rfl, .inr fun i _ _ => idx_pol h⟩
theorem range_clamp {a b n : Int} (ha : InC a) (hb : InC b) (hab : a < b) (n1 : 1 ≤ n) (n2 : n ≤ 128) : RangeIs a b n 0 (idxN a n 0) (idxN (b - 1) n 0) true := by
  rw [(idx_val (idx_clamp (i := a) n1 n2)).1, (idx_val (idx_clamp (i := b - 1) n1 n2)).1]
  refine .inl ⟨rfl, ha, hb, ⟨a, by omega, hab, idx_clamp n1 n2⟩, ⟨b - 1, by omega, by omega, idx_clamp n1 n2⟩, fun i k h1 h2 h3 => ?_⟩
  rw [idx_clamp n1 n2, Option.some.injEq] at h3
  omega
theorem spans_period {a b n p lo hi : Int} (hn : 1 ≤ n) (hp : p = 1 ∨ p = 2) (h : Spans a (min b (a + 2 * n)) n p lo hi) : Spans a b n p lo hi := by
  by_cases g : b ≤ a + 2 * n
  · rw [show min b (a + 2 * n) = b by omega] at h; exact h
  · rw [show min b (a + 2 * n) = a + 2 * n by omega] at h
    rcases scan_period (b := b) (f := true) hn hp (by omega) (.inl ⟨rfl, h⟩) with ⟨_, hs⟩ | ⟨hf, _⟩
    · exact hs
    · cases hf
theorem range_const {a b n : Int} (ha : InC a) (hb : InC b) (n1 : 1 ≤ n) (n2 : n ≤ 128) (h : max a 0 < min b n) : RangeIs a b n 3 (max a 0) (min b n - 1) true := by
  refine .inl ⟨rfl, ha, hb, ⟨max a 0, by omega, by omega, idx_const n1 n2 (by omega) (by omega)⟩, ⟨min b n - 1, by omega, by omega, idx_const n1 n2 (by omega) (by omega)⟩, fun i k h1 h2 h3 => ?_⟩
  by_cases g : 0 ≤ i ∧ i < n
  · rw [idx_const n1 n2 g.1 g.2, Option.some.injEq] at h3; omega
  · rw [idx_out g] at h3; cases h3
theorem range_off {a b n : Int} (h : min b n ≤ max a 0) : RangeIs a b n 3 0 0 false := .inr ⟨rfl, rfl, rfl, .inr fun i h1 h2 => idx_out (by omega)⟩
/-- the three results of a range came back, and nothing changed -/
def RangePost (a b n p : Int) (w : World) (e : Ending) (w' : World) : Prop := ∃ (lo hi : Int) (ok : Bool), e = .returned (.tuple #[.int .i64 lo, .int .i64 hi, .bool ok]) ∧ RangeIs a b n p lo hi ok ∧ w = w'
section
variable (a b n p : Int) (w : World)
theorem range_1 (h : coordB a = false) : Calls Try.prog 17 #[.int .i64 a, .int .i64 b, .int .i64 n, .int .i64 p] w (RangePost a b n p w) := by
  have h' := Lib.hid h
  go_enter Try.func17, Try.ntmps17
  go_wp2_with fail
  refine (coord_any _ _).mono ?_; rintro e w1 ⟨rfl, rfl⟩; simp only [h'.out]
  go_wp2_with fail
  go_ret3
  exact ⟨_, _, _, rfl, range_far (fun g => coordB_f.1 h'.out g.1), rfl⟩
theorem range_2 (h : coordB a = true) (k : coordB b = false) : Calls Try.prog 17 #[.int .i64 a, .int .i64 b, .int .i64 n, .int .i64 p] w (RangePost a b n p w) := by
  have h' := Lib.hid h
  have k' := Lib.hid k
  go_enter Try.func17, Try.ntmps17
  go_wp2_with fail
  refine (coord_any _ _).mono ?_; rintro e w1 ⟨rfl, rfl⟩; simp only [h'.out]
  go_wp2_with fail
  refine (coord_any _ _).mono ?_; rintro e w1 ⟨rfl, rfl⟩; simp only [k'.out]
  go_wp2_with fail
  go_ret3
  exact ⟨_, _, _, rfl, range_far (fun g => coordB_f.1 k'.out g.2), rfl⟩
theorem range_3 (h : coordB a = true) (k : coordB b = true) (hab : b ≤ a) : Calls Try.prog 17 #[.int .i64 a, .int .i64 b, .int .i64 n, .int .i64 p] w (RangePost a b n p w) := by
  have h' := Lib.hid h
  have k' := Lib.hid k
  go_enter Try.func17, Try.ntmps17
  go_wp2_with fail
  refine (coord_any _ _).mono ?_; rintro e w1 ⟨rfl, rfl⟩; simp only [h'.out]
  go_wp2_with fail
  refine (coord_any _ _).mono ?_; rintro e w1 ⟨rfl, rfl⟩; simp only [k'.out]
  go_wp2_with fail
  go_ret3
  exact ⟨_, _, _, rfl, range_void hab, rfl⟩
theorem range_4 (h : coordB a = true) (k : coordB b = true) (hab : a < b) (hs : sideB n = false) : Calls Try.prog 17 #[.int .i64 a, .int .i64 b, .int .i64 n, .int .i64 p] w (RangePost a b n p w) := by
  have h' := Lib.hid h
  have k' := Lib.hid k
  have s' := Lib.hid hs
  go_enter Try.func17, Try.ntmps17
  go_wp2_with fail
  refine (coord_any _ _).mono ?_; rintro e w1 ⟨rfl, rfl⟩; simp only [h'.out]
  go_wp2_with fail
  refine (coord_any _ _).mono ?_; rintro e w1 ⟨rfl, rfl⟩; simp only [k'.out]
  go_wp2_with fail
  refine (side_any _ _).mono ?_; rintro e w1 ⟨rfl, rfl⟩; simp only [s'.out]
  go_wp2_with fail
  go_ret3
  exact ⟨_, _, _, rfl, range_len (sideB_f.1 s'.out), rfl⟩
end
theorem range_clampC (a b n : Int) (w : World) (h : coordB a = true) (k : coordB b = true) (hab : a < b) (hs : sideB n = true) : Calls Try.prog 17 #[.int .i64 a, .int .i64 b, .int .i64 n, .int .i64 0] w (RangePost a b n 0 w) := by
  have h' := Lib.hid h
  have k' := Lib.hid k
  have s' := Lib.hid hs
  obtain ⟨n1, n2⟩ := sideB_t.1 hs
  obtain ⟨a0, a1⟩ := coordB_t.1 h
  obtain ⟨b0, b1⟩ := coordB_t.1 k
  clear h k hs
  go_enter Try.func17, Try.ntmps17
  go_wp2_with fail
  refine (coord_any _ _).mono ?_; rintro e w1 ⟨rfl, rfl⟩; simp only [h'.out]
  go_wp2_with fail
  refine (coord_any _ _).mono ?_; rintro e w1 ⟨rfl, rfl⟩; simp only [k'.out]
  go_wp2_with fail
  refine (side_any _ _).mono ?_; rintro e w1 ⟨rfl, rfl⟩; simp only [s'.out]
  go_wp2_with fail
  refine (index_any _ _ _ _ (by omega) (by omega)).mono ?_; rintro e w1 ⟨rfl, rfl⟩
  go_wp2_with fail
  refine (index_any _ _ _ _ (by omega) (by omega)).mono ?_; rintro e w1 ⟨rfl, rfl⟩
  go_wp2_with fail
  go_ret3
  exact ⟨_, _, _, rfl, range_clamp ⟨a0, a1⟩ ⟨b0, b1⟩ hab n1 n2, rfl⟩
theorem range_mirrorC (a b n : Int) (w : World) (h : coordB a = true) (k : coordB b = true) (hab : a < b) (hs : sideB n = true) : Calls Try.prog 17 #[.int .i64 a, .int .i64 b, .int .i64 n, .int .i64 1] w (RangePost a b n 1 w) := by
  have h' := Lib.hid h
  have k' := Lib.hid k
  have s' := Lib.hid hs
  obtain ⟨n1, n2⟩ := sideB_t.1 hs
  obtain ⟨a0, a1⟩ := coordB_t.1 h
  obtain ⟨b0, b1⟩ := coordB_t.1 k
  clear h k hs
  go_enter Try.func17, Try.ntmps17
  go_wp2_with fail
  refine (coord_any _ _).mono ?_; rintro e w1 ⟨rfl, rfl⟩; simp only [h'.out]
  go_wp2_with fail
  refine (coord_any _ _).mono ?_; rintro e w1 ⟨rfl, rfl⟩; simp only [k'.out]
  go_wp2_with fail
  refine (side_any _ _).mono ?_; rintro e w1 ⟨rfl, rfl⟩; simp only [s'.out]
  go_wp2_with fail
  refine (extremes_any _ _ _ _ _ ⟨a0, a1⟩ ⟨by omega, by omega⟩ (by omega) n1 n2 (by omega)).mono ?_; rintro e w1 ⟨lo, hi, rfl, HS, rfl⟩
  have HS' := Lib.hid HS
  clear HS
  go_wp2_with fail
  go_ret3
  exact ⟨_, _, _, rfl, .inl ⟨rfl, ⟨a0, a1⟩, ⟨b0, b1⟩, spans_period n1 (by omega) HS'.out⟩, rfl⟩
theorem range_wrapC (a b n : Int) (w : World) (h : coordB a = true) (k : coordB b = true) (hab : a < b) (hs : sideB n = true) : Calls Try.prog 17 #[.int .i64 a, .int .i64 b, .int .i64 n, .int .i64 2] w (RangePost a b n 2 w) := by
  have h' := Lib.hid h
  have k' := Lib.hid k
  have s' := Lib.hid hs
  obtain ⟨n1, n2⟩ := sideB_t.1 hs
  obtain ⟨a0, a1⟩ := coordB_t.1 h
  obtain ⟨b0, b1⟩ := coordB_t.1 k
  clear h k hs
  go_enter Try.func17, Try.ntmps17
  go_wp2_with fail
  refine (coord_any _ _).mono ?_; rintro e w1 ⟨rfl, rfl⟩; simp only [h'.out]
  go_wp2_with fail
  refine (coord_any _ _).mono ?_; rintro e w1 ⟨rfl, rfl⟩; simp only [k'.out]
  go_wp2_with fail
  refine (side_any _ _).mono ?_; rintro e w1 ⟨rfl, rfl⟩; simp only [s'.out]
  go_wp2_with fail
  refine (extremes_any _ _ _ _ _ ⟨a0, a1⟩ ⟨by omega, by omega⟩ (by omega) n1 n2 (by omega)).mono ?_; rintro e w1 ⟨lo, hi, rfl, HS, rfl⟩
  have HS' := Lib.hid HS
  clear HS
  go_wp2_with fail
  go_ret3
  exact ⟨_, _, _, rfl, .inl ⟨rfl, ⟨a0, a1⟩, ⟨b0, b1⟩, spans_period n1 (by omega) HS'.out⟩, rfl⟩
theorem range_constC (a b n : Int) (w : World) (h : coordB a = true) (k : coordB b = true) (hab : a < b) (hs : sideB n = true) : Calls Try.prog 17 #[.int .i64 a, .int .i64 b, .int .i64 n, .int .i64 3] w (RangePost a b n 3 w) := by
  have h' := Lib.hid h
  have k' := Lib.hid k
  have s' := Lib.hid hs
  obtain ⟨n1, n2⟩ := sideB_t.1 hs
  obtain ⟨a0, a1⟩ := coordB_t.1 h
  obtain ⟨b0, b1⟩ := coordB_t.1 k
  clear h k hs
  go_enter Try.func17, Try.ntmps17
  go_wp2_with fail
  refine (coord_any _ _).mono ?_; rintro e w1 ⟨rfl, rfl⟩; simp only [h'.out]
  go_wp2_with fail
  refine (coord_any _ _).mono ?_; rintro e w1 ⟨rfl, rfl⟩; simp only [k'.out]
  go_wp2_with fail
  refine (side_any _ _).mono ?_; rintro e w1 ⟨rfl, rfl⟩; simp only [s'.out]
  go_wp2_with fail
  all_goals
    go_ret3
    first
      | exact ⟨_, _, _, rfl, range_const ⟨a0, a1⟩ ⟨b0, b1⟩ n1 n2 (by omega), rfl⟩
      | exact ⟨_, _, _, rfl, range_off (by omega), rfl⟩
theorem range_otherC (a b n p : Int) (w : World) (h : coordB a = true) (k : coordB b = true) (hab : a < b) (hs : sideB n = true) (hp : p < 0 ∨ 3 < p) : Calls Try.prog 17 #[.int .i64 a, .int .i64 b, .int .i64 n, .int .i64 p] w (RangePost a b n p w) := by
  have h' := Lib.hid h
  have k' := Lib.hid k
  have s' := Lib.hid hs
  obtain ⟨n1, n2⟩ := sideB_t.1 hs
  obtain ⟨a0, a1⟩ := coordB_t.1 h
  obtain ⟨b0, b1⟩ := coordB_t.1 k
  clear h k hs
  go_enter Try.func17, Try.ntmps17
  go_wp2_with fail
  refine (coord_any _ _).mono ?_; rintro e w1 ⟨rfl, rfl⟩; simp only [h'.out]
  go_wp2_with fail
  refine (coord_any _ _).mono ?_; rintro e w1 ⟨rfl, rfl⟩; simp only [k'.out]
  go_wp2_with fail
  refine (side_any _ _).mono ?_; rintro e w1 ⟨rfl, rfl⟩; simp only [s'.out]
  go_wp2_with fail
  go_ret3
  exact ⟨_, _, _, rfl, range_pol hp, rfl⟩
theorem range_any (a b n p : Int) (w : World) : Calls Try.prog 17 #[.int .i64 a, .int .i64 b, .int .i64 n, .int .i64 p] w (RangePost a b n p w) := by
  rcases ha : coordB a with _ | _
  · exact range_1 a b n p w ha
  rcases hb : coordB b with _ | _
  · exact range_2 a b n p w ha hb
  by_cases hab : b ≤ a
  · exact range_3 a b n p w ha hb hab
  have hab' : a < b := by omega
  rcases hs : sideB n with _ | _
  · exact range_4 a b n p w ha hb hab' hs
  by_cases hp : p < 0 ∨ 3 < p
  · exact range_otherC a b n p w ha hb hab' hs hp
  rcases (show p = 0 ∨ p = 1 ∨ p = 2 ∨ p = 3 by omega) with rfl | rfl | rfl | rfl
  · exact range_clampC a b n w ha hb hab' hs
  · exact range_mirrorC a b n w ha hb hab' hs
  · exact range_wrapC a b n w ha hb hab' hs
  · exact range_constC a b n w ha hb hab' hs
end Go.Proofs.Ytegbepkegffhaaa
