/- The order of values and Compare of the package ieee as contracts. They leave the world as it is. -/
import Derived.Test.YtnkiieiebldpoaaDoorELeaf
namespace Go.Proofs.YtnkiieiebldpoaaDoor
open Go.ChangeShapes Go.WideShapes Go.ChangeAt Go.RowKit
set_option linter.unusedVariables false
set_option linter.unusedSimpArgs false

theorem order_is {x k : Int} (h : In64u x) (hk : keyN x = k) (w : World) : Calls Tryd.prog 31 #[.int .u64 x] w fun e w' => e = .returned (.int .i64 k) ∧ w = w' := by
  obtain ⟨s, es⟩ : ∃ s, sgB x = s := ⟨_, rfl⟩
  obtain ⟨n, en⟩ : ∃ n, x % 9223372036854775808 = n := ⟨_, rfl⟩
  have a1 : bits .andNot .u64 x 9223372036854775808 = n := by rw [← en]; exact and_not h
  have hn0 : 0 ≤ n ∧ n ≤ 9223372036854775807 := by omega
  have HK : Hid (k = if s = true then -n else n) := Lib.hid (by rw [← hk, ← es, ← en]; rfl)
  have Es := Lib.hid es
  have H := Lib.hid h
  obtain ⟨hn0, hn1⟩ := hn0
  clear h hk es en
  go_enter Tryd.func31, Tryd.ntmps31
  go_wp2_with fail
  refine (signed_is H.out Es.out hn0 hn1 _).mono ?_; rintro e' w' ⟨rfl, rfl⟩
  rw [← HK.out]
  go_wp2_with fail
  go_returns
  exact ⟨rfl, rfl⟩
theorem cmpi_any (x y : Int) (w : World) : Calls Tryd.prog 30 #[.int .i64 x, .int .i64 y] w fun e w' => e = .returned (.int .i64 (if x < y then -1 else if y < x then 1 else 0)) ∧ w = w' := by
  go_enter Tryd.func30, Tryd.ntmps30
  go_wp2
  all_goals (go_ret; refine ⟨ret_int ?_, rfl⟩; (repeat' split) <;> first | rfl | (exfalso; omega))
/-- what Compare leaves -/
def CmpPost' (a b : Int) (w : World) (e : Ending) (w' : World) : Prop := e = .returned (.tuple #[.int .i64 (cmpN a b), .bool (cmpB a b)]) ∧ w = w'
theorem cmp_any (a b : Int) (w : World) (ha : In64u a) (hb : In64u b) : Calls Tryd.prog 14 #[.int .u64 a, .int .u64 b] w (CmpPost' a b w) := by
  obtain ⟨c, ec⟩ : ∃ c, classN a = c := ⟨_, rfl⟩
  obtain ⟨d, ed⟩ : ∃ d, classN b = d := ⟨_, rfl⟩
  obtain ⟨k, ek⟩ : ∃ k, keyN a = k := ⟨_, rfl⟩
  obtain ⟨l, el⟩ : ∃ l, keyN b = l := ⟨_, rfl⟩
  have HA := Lib.hid ha
  have HB := Lib.hid hb
  have Ec := Lib.hid ec
  have Ed := Lib.hid ed
  have Ek := Lib.hid ek
  have El := Lib.hid el
  have hB : cmpB a b = decide (c ≠ 4 ∧ d ≠ 4) := by unfold cmpB; rw [ec, ed]
  have hN : cmpN a b = if cmpB a b = true then (if k < l then -1 else if l < k then 1 else 0) else 0 := by unfold cmpN; rw [ek, el]
  clear ha hb ec ed ek el
  by_cases g : c = 4
  · have HB2 := Lib.hid (show cmpB a b = false by rw [hB]; simp [g])
    have HN2 := Lib.hid (show cmpN a b = 0 by rw [hN, HB2.out]; rfl)
    subst g
    clear hB hN
    go_enter Tryd.func14, Tryd.ntmps14
    go_wp2_with fail
    refine (class_is HA.out Ec.out _).mono ?_; rintro e' w' ⟨rfl, rfl⟩
    go_wp2_with fail
    go_returns
    exact ⟨ret_ib ⟨HN2.out.symm, HB2.out.symm⟩, rfl⟩
  · have hc4 : (c == 4) = false := by simp [g]
    by_cases g2 : d = 4
    · have HB2 := Lib.hid (show cmpB a b = false by rw [hB]; simp [g2])
      have HN2 := Lib.hid (show cmpN a b = 0 by rw [hN, HB2.out]; rfl)
      subst g2
      clear hB hN g
      go_enter Tryd.func14, Tryd.ntmps14
      go_wp2_with fail
      refine (class_is HA.out Ec.out _).mono ?_; rintro e' w' ⟨rfl, rfl⟩
      go_wp2_with fail
      refine (class_is HB.out Ed.out _).mono ?_; rintro e' w' ⟨rfl, rfl⟩
      go_wp2_with fail
      go_returns
      exact ⟨ret_ib ⟨HN2.out.symm, HB2.out.symm⟩, rfl⟩
    · have hd4 : (d == 4) = false := by simp [g2]
      have HB2 := Lib.hid (show cmpB a b = true by rw [hB]; simp [g, g2])
      have HN2 := Lib.hid (show cmpN a b = if k < l then -1 else if l < k then 1 else 0 by rw [hN, HB2.out]; rfl)
      clear hB hN g g2
      go_enter Tryd.func14, Tryd.ntmps14
      go_wp2_with fail
      refine (class_is HA.out Ec.out _).mono ?_; rintro e' w' ⟨rfl, rfl⟩
      go_wp2_with fail
      refine (class_is HB.out Ed.out _).mono ?_; rintro e' w' ⟨rfl, rfl⟩
      go_wp2_with fail
      refine (order_is HA.out Ek.out _).mono ?_; rintro e' w' ⟨rfl, rfl⟩
      go_wp2_with fail
      refine (order_is HB.out El.out _).mono ?_; rintro e' w' ⟨rfl, rfl⟩
      go_wp2_with fail
      refine (cmpi_any k l _).mono ?_; rintro e' w' ⟨rfl, rfl⟩
      rw [← HN2.out]
      go_wp2_with fail
      go_returns
      exact ⟨ret_ib ⟨rfl, HB2.out.symm⟩, rfl⟩
theorem cmp_is {a b c : Int} {g : Bool} (ha : In64u a) (hb : In64u b) (hc : cmpN a b = c) (hg : cmpB a b = g) (w : World) : Calls Tryd.prog 14 #[.int .u64 a, .int .u64 b] w fun e w' => e = .returned (.tuple #[.int .i64 c, .bool g]) ∧ w = w' := by
  have := cmp_any a b w ha hb
  unfold CmpPost' at this
  rw [hc, hg] at this; exact this
theorem shiftOk_any (s : Int) (w : World) : Calls Tryd.prog 33 #[.int .i64 s] w fun e w' => e = .returned (.bool (decide (0 ≤ s ∧ s ≤ 24))) ∧ w = w' := by
  go_enter Tryd.func33, Tryd.ntmps33
  go_wp2
  all_goals (go_ret; refine ⟨ret_bool ?_, rfl⟩; first | (simp; done) | (simp; omega) | (simp at *; omega))
theorem weightOk_any (s : Int) (w : World) : Calls Tryd.prog 35 #[.int .i64 s] w fun e w' => e = .returned (.bool (decide (-32767 ≤ s ∧ s ≤ 32767))) ∧ w = w' := by
  go_enter Tryd.func35, Tryd.ntmps35
  go_wp2
  all_goals (go_ret; refine ⟨ret_bool ?_, rfl⟩; first | (simp; done) | (simp; omega) | (simp at *; omega))
theorem shiftOk_is {s : Int} {b : Bool} (h : decide (0 ≤ s ∧ s ≤ 24) = b) (w : World) : Calls Tryd.prog 33 #[.int .i64 s] w fun e w' => e = .returned (.bool b) ∧ w = w' := by
  rw [← h]; exact shiftOk_any s w
theorem weightOk_is {s : Int} {b : Bool} (h : decide (-32767 ≤ s ∧ s ≤ 32767) = b) (w : World) : Calls Tryd.prog 35 #[.int .i64 s] w fun e w' => e = .returned (.bool b) ∧ w = w' := by
  rw [← h]; exact weightOk_any s w
end Go.Proofs.YtnkiieiebldpoaaDoor
