/- The tile of a point as contracts, of the program and of its reference: what each returns; the world gets new blocks at most. -/
import Derived.Test.YtpbapamoihkaoaaGTile
namespace Go.Proofs.Ytpbapamoihkaoaa
open Go.ChangeShapes Go.WideShapes Go.ChangeAt Go.RowKit
set_option linter.unusedVariables false
set_option linter.unusedSimpArgs false

/-- a number and a test came back, and only new blocks came -/
def OfPost (n : Int) (b : Bool) (w : World) (e : Ending) (w' : World) : Prop := e = .returned (.tuple #[.int .i64 n, .bool b]) ∧ Below w.heap.size w w'
theorem contains_is {a b c d u v : Int} {x : Bool} (h : containsB a b c d u v = x) (w : World) : Calls Try.prog 22 #[.agg #[.int .i64 a, .int .i64 b, .int .i64 c, .int .i64 d], .int .i64 u, .int .i64 v] w (TestPost x w) := h ▸ contains_any a b c d u v w
theorem whole_contains {w h t u x y : Int} (hf : fineB w h t u = true) : containsB 0 0 w h x y = ofB w h t u x y := by
  have hb := fineB_t.1 hf
  rw [Bool.eq_iff_iff, containsB_t, ofB_t, hf]
  have hv : validB 0 0 w h = true := validB_t.2 (by omega)
  simp [hv]
/-- what the walk asks of a point that is in the plane -/
theorem names_of {w h t u x y : Int} (h0 : ofB w h t u x y = true) :
    ∃ C R A B Q : Int, colN w h t u = C ∧ rowN w h t u = R ∧ (1 ≤ C ∧ C ≤ 128) ∧ y.tdiv u = A ∧ x.tdiv t = B ∧ A * C = Q ∧ (0 ≤ A ∧ A ≤ 128) ∧ (0 ≤ B ∧ B ≤ 128) ∧ (0 ≤ Q ∧ Q ≤ 16384) ∧ ¬ u = 0 ∧ ¬ t = 0 ∧ Q + B = ofN w h t u x y ∧ (0 ≤ x ∧ x < w ∧ w ≤ 128) ∧ (0 ≤ y ∧ y < h ∧ h ≤ 128) ∧ (1 ≤ t ∧ t ≤ 64) ∧ (1 ≤ u ∧ u ≤ 64) := by
  obtain ⟨hf, hx0, hx1, hy0, hy1⟩ := ofB_t.1 h0
  have hb := fineB_t.1 hf
  have hc := counts hf
  have ho := of_bd h0
  have t1 : y.tdiv u = y / u := Int.tdiv_eq_ediv_of_nonneg (by omega)
  have t2 : x.tdiv t = x / t := Int.tdiv_eq_ediv_of_nonneg (by omega)
  refine ⟨colN w h t u, rowN w h t u, _, _, _, rfl, rfl, by omega, t1, t2, rfl, by omega, by omega, by omega, by omega, by omega, (of_yes h0).symm, by omega, by omega, by omega, by omega⟩
theorem ofB_no {w h t u x y : Int} (hf : fineB w h t u = false) : ofB w h t u x y = false := by
  rcases ho : ofB w h t u x y with _ | _
  · rfl
  · have := (ofB_t.1 ho).1
    rw [this] at hf; cases hf
set_option maxHeartbeats 1000000 in
theorem gof_any (w h t u x y : Int) (w0 : World) : Calls Try.prog 8 #[.int .i64 w, .int .i64 h, .int .i64 t, .int .i64 u, .int .i64 x, .int .i64 y] w0 (OfPost (ofN w h t u x y) (ofB w h t u x y) w0) := by
  rcases hf : fineB w h t u with _ | _
  · rw [of_no (ofB_no hf), ofB_no hf]
    have HC := Lib.hid (counts_no hf)
    clear hf
    go_enter Try.func8, Try.ntmps8
    go_wp2_with fail
    refine (count_is HC.out.1 HC.out.2 _).mono ?_; rintro e w' ⟨rfl, rfl⟩
    go_wp2_with fail
    go_ret2
    exact ⟨rfl, bref _⟩
  · rcases hB : ofB w h t u x y with _ | _
    · rw [of_no hB]
      have hc := (counts hf).1
      have HK := Lib.hid ((whole_contains (x := x) (y := y) hf).trans hB)
      obtain ⟨C, eC⟩ : ∃ C, colN w h t u = C := ⟨_, rfl⟩
      obtain ⟨R, eR⟩ : ∃ R, rowN w h t u = R := ⟨_, rfl⟩
      rw [eC] at hc
      have hc0 : (C == 0) = false := by simp; omega
      have HC := Lib.hid eC
      have HR := Lib.hid eR
      clear eC eR hf hB hc
      go_enter Try.func8, Try.ntmps8
      go_wp2_with fail
      refine (count_is HC.out HR.out _).mono ?_; rintro e w' ⟨rfl, rfl⟩
      go_wp2_with fail
      refine (whole_any _ _ _).mono ?_; rintro e w1 ⟨rfl, hb⟩
      go_wp2_with fail
      refine (contains_is HK.out _).mono ?_; rintro e w2 ⟨rfl, hb2⟩
      go_wp2_with fail
      go_ret2
      exact ⟨rfl, bthen hb hb2⟩
    · obtain ⟨C, R, A, B, Q, eC, eR, hC, t1, t2, eQ, hA, hBb, hQ, u0, z0, eN, hx, hy, bt, bu⟩ := names_of hB
      have HK := Lib.hid ((whole_contains (x := x) (y := y) hf).trans hB)
      rw [← eN]
      have hc0 : (C == 0) = false := by simp; omega
      have t3 : IntKind.i64.wrap A = A := IntWalk.i64_in _ (by omega)
      have t4 : IntKind.i64.wrap B = B := IntWalk.i64_in _ (by omega)
      have t5 : IntKind.i64.wrap Q = Q := IntWalk.i64_in _ (by omega)
      have t6 : IntKind.i64.wrap (Q + B) = Q + B := IntWalk.i64_in _ (by omega)
      have HC := Lib.hid eC
      have HR := Lib.hid eR
      clear eC eR hf hB eN
      go_enter Try.func8, Try.ntmps8
      go_wp2_with fail
      refine (count_is HC.out HR.out _).mono ?_; rintro e w' ⟨rfl, rfl⟩
      go_wp2_with fail
      refine (whole_any _ _ _).mono ?_; rintro e w1 ⟨rfl, hb⟩
      go_wp2_with fail
      refine (contains_is HK.out _).mono ?_; rintro e w2 ⟨rfl, hb2⟩
      go_wp2_with fail
      go_quiet (fail)
      go_wp2_with fail
      go_ret2
      exact ⟨rfl, bdrewN (bthen hb hb2) _⟩
set_option maxHeartbeats 1000000 in
theorem rof_any (w h t u x y : Int) (w0 : World) : Calls Try.prog 28 #[.int .i64 w, .int .i64 h, .int .i64 t, .int .i64 u, .int .i64 x, .int .i64 y] w0 (OfPost (ofN w h t u x y) (ofB w h t u x y) w0) := by
  rcases hf : fineB w h t u with _ | _
  · rw [of_no (ofB_no hf), ofB_no hf]
    have HC := Lib.hid (counts_no hf)
    clear hf
    go_enter Try.func28, Try.ntmps28
    go_wp2_with fail
    refine (rcount_is HC.out.1 HC.out.2 _).mono ?_; rintro e w' ⟨rfl, rfl⟩
    go_wp2_with fail
    go_ret2
    exact ⟨rfl, bref _⟩
  · rcases hB : ofB w h t u x y with _ | _
    · rw [of_no hB]
      have hc := (counts hf).1
      have hn : ¬ (0 ≤ x ∧ x < w ∧ 0 ≤ y ∧ y < h) := fun g => by
        have := ofB_t.2 ⟨hf, g⟩
        rw [this] at hB; cases hB
      have h' : x < 0 ∨ (0 ≤ x ∧ w ≤ x) ∨ (0 ≤ x ∧ x < w ∧ y < 0) ∨ (0 ≤ x ∧ x < w ∧ 0 ≤ y ∧ h ≤ y) := by omega
      obtain ⟨C, eC⟩ : ∃ C, colN w h t u = C := ⟨_, rfl⟩
      obtain ⟨R, eR⟩ : ∃ R, rowN w h t u = R := ⟨_, rfl⟩
      rw [eC] at hc
      have hc0 : (C == 0) = false := by simp; omega
      have HC := Lib.hid eC
      have HR := Lib.hid eR
      clear eC eR hf hB hc hn
      go_enter Try.func28, Try.ntmps28
      go_wp2_with fail
      refine (rcount_is HC.out HR.out _).mono ?_; rintro e w' ⟨rfl, rfl⟩
      rcases h' with h' | h' | h' | h'
      all_goals
        go_wp2_with fail
        go_ret2
        exact ⟨rfl, bref _⟩
    · obtain ⟨C, R, A, B, Q, eC, eR, hC, t1, t2, eQ, hA, hBb, hQ, u0, z0, eN, hx, hy, bt, bu⟩ := names_of hB
      rw [← eN]
      have hc0 : (C == 0) = false := by simp; omega
      have t3 : IntKind.i64.wrap A = A := IntWalk.i64_in _ (by omega)
      have t4 : IntKind.i64.wrap B = B := IntWalk.i64_in _ (by omega)
      have t5 : IntKind.i64.wrap Q = Q := IntWalk.i64_in _ (by omega)
      have t6 : IntKind.i64.wrap (Q + B) = Q + B := IntWalk.i64_in _ (by omega)
      have HC := Lib.hid eC
      have HR := Lib.hid eR
      clear eC eR hf hB eN
      go_enter Try.func28, Try.ntmps28
      go_wp2_with fail
      refine (rcount_is HC.out HR.out _).mono ?_; rintro e w' ⟨rfl, rfl⟩
      go_wp2_with fail
      go_quiet (fail)
      go_wp2_with fail
      go_ret2
      exact ⟨rfl, bdrewN (bref _) _⟩
end Go.Proofs.Ytpbapamoihkaoaa
