/- The numbers of tiles as contracts, of the program and of its reference; the rectangle of a plane. -/
import Derived.Test.YtpbapamoihkaoaaGPlain
import Derived.Test.YtpbapamoihkaoaaRInter
namespace Go.Proofs.Ytpbapamoihkaoaa
open Go.ChangeShapes Go.WideShapes Go.ChangeAt Go.RowKit
set_option linter.unusedVariables false
set_option linter.unusedSimpArgs false

def GWithinPost (n l : Int) (w : World) (e : Ending) (w' : World) : Prop := e = .returned (.bool (withinB n l)) ∧ w = w'
theorem gwithin_any (n l : Int) (w : World) : Calls Try.prog 24 #[.int .i64 n, .int .i64 l] w (GWithinPost n l w) := by
  go_enter Try.func24, Try.ntmps24
  go_wp2
  all_goals
    go_ret
    refine ⟨ret_bool ?_, rfl⟩
    rw [Bool.eq_iff_iff, withinB_t]; simp <;> omega
theorem gwithin_is {n l : Int} {b : Bool} (h : withinB n l = b) (w : World) : Calls Try.prog 24 #[.int .i64 n, .int .i64 l] w fun e w' => e = .returned (.bool b) ∧ w = w' := by
  have := gwithin_any n l w
  unfold GWithinPost at this
  rw [h] at this; exact this
theorem whole_any (x y : Int) (w : World) : Calls Try.prog 23 #[.int .i64 x, .int .i64 y] w (RcPost ⟨0, 0, x, y⟩ w) := by
  go_enter Try.func23, Try.ntmps23
  go_wp2_with fail
  exact bodyPost_ret (v := .agg #[.int .i64 0, .int .i64 0, .int .i64 x, .int .i64 y]) (by simp [results, Try.results23, go_sem]) rfl ⟨rfl, balloc (bref w) _⟩
/-- what Count leaves -/
def CountPost (w h t u : Int) (w0 : World) (e : Ending) (w' : World) : Prop := e = .returned (.tuple #[.int .i64 (colN w h t u), .int .i64 (rowN w h t u)]) ∧ w0 = w'
theorem ret_ii {a b c d : Int} (h : a = c ∧ b = d) : Ending.returned (.tuple #[.int .i64 a, .int .i64 b]) = .returned (.tuple #[.int .i64 c, .int .i64 d]) := by rw [h.1, h.2]
theorem count_no {w h t u : Int} (h0 : withinB w 128 = false ∨ withinB h 128 = false ∨ withinB t 64 = false ∨ withinB u 64 = false) : (0 : Int) = colN w h t u ∧ (0 : Int) = rowN w h t u := by
  have hf : fineB w h t u = false := by
    rw [fineB_f]
    simp only [withinB_f] at h0
    omega
  have := counts_no hf
  omega
theorem count_yes {w h t u : Int} (a : withinB w 128 = true) (b : withinB h 128 = true) (c : withinB t 64 = true) (d : withinB u 64 = true) : ceilN w t = colN w h t u ∧ ceilN h u = rowN w h t u := by
  have hf : fineB w h t u = true := by
    rw [fineB_t]
    simp only [withinB_t] at a b c d
    omega
  unfold colN rowN
  rw [if_pos hf, if_pos hf]; exact ⟨rfl, rfl⟩
set_option maxHeartbeats 400000 in
theorem count_any (w h t u : Int) (w0 : World) : Calls Try.prog 9 #[.int .i64 w, .int .i64 h, .int .i64 t, .int .i64 u] w0 (CountPost w h t u w0) := by
  rcases ha : withinB w 128 with _ | _
  · have HA := Lib.hid ha
    clear ha
    go_enter Try.func9, Try.ntmps9
    go_wp2_with (go_at_call 24; refine (gwithin_is HA.out _).mono ?_; rintro e w' ⟨rfl, rfl⟩)
    go_ret2
    exact ⟨ret_ii (count_no (.inl HA.out)), rfl⟩
  · rcases hb : withinB h 128 with _ | _
    · have HA := Lib.hid ha
      have HB := Lib.hid hb
      clear ha hb
      go_enter Try.func9, Try.ntmps9
      go_wp2_with fail
      refine (gwithin_is HA.out _).mono ?_; rintro e w' ⟨rfl, rfl⟩
      go_wp2_with fail
      refine (gwithin_is HB.out _).mono ?_; rintro e w' ⟨rfl, rfl⟩
      go_wp2_with fail
      go_ret2
      exact ⟨ret_ii (count_no (.inr (.inl HB.out))), rfl⟩
    · rcases hc : withinB t 64 with _ | _
      · have HA := Lib.hid ha
        have HB := Lib.hid hb
        have HC := Lib.hid hc
        clear ha hb hc
        go_enter Try.func9, Try.ntmps9
        go_wp2_with fail
        refine (gwithin_is HA.out _).mono ?_; rintro e w' ⟨rfl, rfl⟩
        go_wp2_with fail
        refine (gwithin_is HB.out _).mono ?_; rintro e w' ⟨rfl, rfl⟩
        go_wp2_with fail
        refine (gwithin_is HC.out _).mono ?_; rintro e w' ⟨rfl, rfl⟩
        go_wp2_with fail
        go_ret2
        exact ⟨ret_ii (count_no (.inr (.inr (.inl HC.out)))), rfl⟩
      · rcases hd : withinB u 64 with _ | _
        · have HA := Lib.hid ha
          have HB := Lib.hid hb
          have HC := Lib.hid hc
          have HD := Lib.hid hd
          clear ha hb hc hd
          go_enter Try.func9, Try.ntmps9
          go_wp2_with fail
          refine (gwithin_is HA.out _).mono ?_; rintro e w' ⟨rfl, rfl⟩
          go_wp2_with fail
          refine (gwithin_is HB.out _).mono ?_; rintro e w' ⟨rfl, rfl⟩
          go_wp2_with fail
          refine (gwithin_is HC.out _).mono ?_; rintro e w' ⟨rfl, rfl⟩
          go_wp2_with fail
          refine (gwithin_is HD.out _).mono ?_; rintro e w' ⟨rfl, rfl⟩
          go_wp2_with fail
          go_ret2
          exact ⟨ret_ii (count_no (.inr (.inr (.inr HD.out)))), rfl⟩
        · have b1 := withinB_t.1 ha
          have b2 := withinB_t.1 hb
          have b3 := withinB_t.1 hc
          have b4 := withinB_t.1 hd
          have HA := Lib.hid ha
          have HB := Lib.hid hb
          have HC := Lib.hid hc
          have HD := Lib.hid hd
          clear ha hb hc hd
          go_enter Try.func9, Try.ntmps9
          go_wp2_with fail
          refine (gwithin_is HA.out _).mono ?_; rintro e w' ⟨rfl, rfl⟩
          go_wp2_with fail
          refine (gwithin_is HB.out _).mono ?_; rintro e w' ⟨rfl, rfl⟩
          go_wp2_with fail
          refine (gwithin_is HC.out _).mono ?_; rintro e w' ⟨rfl, rfl⟩
          go_wp2_with fail
          refine (gwithin_is HD.out _).mono ?_; rintro e w' ⟨rfl, rfl⟩
          go_wp2_with fail
          refine (ceil_any _ _ _ (by omega) (by omega) (by omega) (by omega)).mono ?_; rintro e w' ⟨rfl, rfl⟩
          go_wp2_with fail
          refine (ceil_any _ _ _ (by omega) (by omega) (by omega) (by omega)).mono ?_; rintro e w' ⟨rfl, rfl⟩
          go_wp2_with fail
          go_ret2
          exact ⟨ret_ii (count_yes HA.out HB.out HC.out HD.out), rfl⟩
set_option maxHeartbeats 1000000 in
theorem rfine_any (w h t u : Int) (w0 : World) : Calls Try.prog 36 #[.int .i64 w, .int .i64 h, .int .i64 t, .int .i64 u] w0 fun e w' => e = .returned (.bool (fineB w h t u)) ∧ w0 = w' := by
  go_enter Try.func36, Try.ntmps36
  go_wp2
  all_goals
    go_ret
    refine ⟨ret_bool ?_, rfl⟩
    rw [Bool.eq_iff_iff, fineB_t]; simp <;> omega
theorem rcount_any (w h t u : Int) (w0 : World) : Calls Try.prog 26 #[.int .i64 w, .int .i64 h, .int .i64 t, .int .i64 u] w0 (CountPost w h t u w0) := by
  rcases hf : fineB w h t u with _ | _
  · have HF := Lib.hid hf
    clear hf
    go_enter Try.func26, Try.ntmps26
    go_wp2_with fail
    refine (rfine_any _ _ _ _ _).mono ?_; rintro e w' ⟨rfl, rfl⟩
    rw [HF.out]
    go_wp2_with fail
    go_ret2
    exact ⟨ret_ii ⟨(counts_no HF.out).1.symm, (counts_no HF.out).2.symm⟩, rfl⟩
  · have HF := Lib.hid hf
    have hb := fineB_t.1 hf
    clear hf
    have b1 : 1 ≤ w ∧ w ≤ 128 := by omega
    have b2 : 1 ≤ h ∧ h ≤ 128 := by omega
    have b3 : 1 ≤ t ∧ t ≤ 64 := by omega
    have b4 : 1 ≤ u ∧ u ≤ 64 := by omega
    clear hb
    have HR : Hid (ceilN w t = colN w h t u ∧ ceilN h u = rowN w h t u) := Lib.hid (by unfold colN rowN; rw [if_pos HF.out, if_pos HF.out]; exact ⟨rfl, rfl⟩)
    go_enter Try.func26, Try.ntmps26
    go_wp2_with fail
    refine (rfine_any _ _ _ _ _).mono ?_; rintro e w' ⟨rfl, rfl⟩
    rw [HF.out]
    go_wp2_with fail
    refine (rceil_any _ _ _ (by omega) (by omega) (by omega) (by omega)).mono ?_; rintro e w' ⟨rfl, rfl⟩
    go_wp2_with fail
    refine (rceil_any _ _ _ (by omega) (by omega) (by omega) (by omega)).mono ?_; rintro e w' ⟨rfl, rfl⟩
    go_wp2_with fail
    go_ret2
    exact ⟨ret_ii HR.out, rfl⟩
end Go.Proofs.Ytpbapamoihkaoaa
