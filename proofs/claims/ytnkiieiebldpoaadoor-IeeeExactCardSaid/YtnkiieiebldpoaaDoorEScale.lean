/- Scale of the package ieee as a contract: the number and the code; the world gets new blocks at most. -/
import Derived.Test.YtnkiieiebldpoaaDoorENear
import Derived.Test.YtnkiieiebldpoaaDoorEParts
import Derived.Test.YtnkiieiebldpoaaDoorFScale
namespace Go.Proofs.YtnkiieiebldpoaaDoor
open Go.ChangeShapes Go.WideShapes Go.ChangeAt Go.RowKit
set_option linter.unusedVariables false
set_option linter.unusedSimpArgs false

/-- what Scale leaves -/
def ScalePostB (x s : Int) (w : World) (e : Ending) (w' : World) : Prop := e = .returned (.tuple #[.int .i64 (scaleN x s), .int .i64 (scaleC x s)]) ∧ Below w.heap.size w w'
theorem scale_any (x s : Int) (w : World) (hx : In64u x) (hT : TabZ w) : Calls Tryd.prog 19 #[.int .u64 x, .int .i64 s] w (ScalePostB x s w) := by
  have HT := Lib.hid hT
  have HX := Lib.hid hx
  by_cases h : s < 0 ∨ 24 < s
  · have HS := Lib.hid (scale_range (x := x) h)
    have HO := Lib.hid (show decide (0 ≤ s ∧ s ≤ 24) = false by simp; omega)
    clear hT hx h
    go_enter Tryd.func19, Tryd.ntmps19
    go_wp2_with fail
    refine (shiftOk_is HO.out _).mono ?_; rintro e' w' ⟨rfl, rfl⟩
    go_wp2_with fail
    go_returns
    exact ⟨ret_ii ⟨HS.out.1.symm, HS.out.2.symm⟩, bref _⟩
  · have h0 : 0 ≤ s ∧ s ≤ 24 := by omega
    have HO := Lib.hid (show decide (0 ≤ s ∧ s ≤ 24) = true by simp; omega)
    clear h
    by_cases hc : 2 < classN x
    · have HS := Lib.hid (scale_class (x := x) h0 hc)
      obtain ⟨p1, p2, p3⟩ := parts_no hc
      have P1 := Lib.hid p1
      have P2 := Lib.hid p2
      have P3 := Lib.hid p3
      clear p1 p2 p3 hc hx hT h0
      go_enter Tryd.func19, Tryd.ntmps19
      go_wp2_with fail
      refine (shiftOk_is HO.out _).mono ?_; rintro e' w' ⟨rfl, rfl⟩
      go_wp2_with fail
      refine (parts_is HX.out P1.out P2.out P3.out _ HT.out).mono ?_; rintro e' w' ⟨rfl, rfl⟩
      go_wp2_with fail
      go_returns
      exact ⟨ret_ii ⟨HS.out.1.symm, HS.out.2.symm⟩, bref _⟩
    · have hcl : classN x ≤ 2 := by omega
      obtain ⟨f, hf, hm, hd, hs⟩ := parts_size hcl
      have hsz := hs s
      obtain ⟨d, ed⟩ : ∃ d, partE x = d := ⟨_, rfl⟩
      rw [ed] at hd hsz
      have P1 := Lib.hid (show partM x = sg (sgB x) f from hm)
      have P2 := Lib.hid ed
      have P3 := Lib.hid (partB_t hcl)
      have HN := Lib.hid (fun w => nearest_any f (d + s) (sgB x) w hf (by omega))
      have HO1 := Lib.hid (fun g => scale_over (x := x) (s := s) h0 hcl g)
      have HO2 := Lib.hid (fun g => scale_ok (x := x) (s := s) h0 hcl g)
      have HZ := Lib.hid hsz
      have hds : wrap64 (d + s) = d + s := by unfold wrap64; omega
      clear hs ed hm hf hsz hcl hc hx hT
      obtain ⟨h0, h1⟩ := h0
      obtain ⟨m, em⟩ : ∃ m, sg (sgB x) f = m := ⟨_, rfl⟩
      rw [em] at P1 HN
      clear em
      go_enter Tryd.func19, Tryd.ntmps19
      go_wp2_with fail
      refine (shiftOk_is HO.out _).mono ?_; rintro e' w' ⟨rfl, rfl⟩
      go_wp2_with fail
      refine (parts_is HX.out P1.out P2.out P3.out _ HT.out).mono ?_; rintro e' w' ⟨rfl, rfl⟩
      go_wp2_with fail
      refine (HN.out _).mono ?_; rintro e' w1 ⟨n, rfl, hnb, hn, hb⟩
      have HB := Lib.hid hb
      have HNB := Lib.hid hnb
      clear hb hnb
      rcases hn with ⟨n1, n2⟩ | ⟨n1, n2⟩
      · have HR := Lib.hid (HO2.out (by rw [HZ.out]; exact n1))
        have HV := Lib.hid (show scaleN x s = n by rw [HR.out.1, n2, HZ.out]; rfl)
        have HW := Lib.hid (show decide (-32767 ≤ n ∧ n ≤ 32767) = true by rw [n2, decide_eq_true_eq]; exact (sg_in _ _).2 n1)
        clear n1 n2
        go_wp2_with fail
        refine (weightOk_is HW.out _).mono ?_; rintro e' w' ⟨rfl, rfl⟩
        go_wp2_with fail
        go_returns
        exact ⟨ret_ii ⟨HV.out.symm, HR.out.2.symm⟩, HB.out⟩
      · have HR := Lib.hid (HO1.out (by rw [HZ.out]; exact n1))
        have HW := Lib.hid (show decide (-32767 ≤ n ∧ n ≤ 32767) = false by simp; omega)
        clear n1 n2
        go_wp2_with fail
        refine (weightOk_is HW.out _).mono ?_; rintro e' w' ⟨rfl, rfl⟩
        go_wp2_with fail
        go_returns
        exact ⟨ret_ii ⟨HR.out.1.symm, HR.out.2.symm⟩, HB.out⟩
theorem scale_is {x s n c : Int} (hx : In64u x) (hn : scaleN x s = n) (hc : scaleC x s = c) (w : World) (hT : TabZ w) : Calls Tryd.prog 19 #[.int .u64 x, .int .i64 s] w fun e w' => e = .returned (.tuple #[.int .i64 n, .int .i64 c]) ∧ Below w.heap.size w w' := by
  have := scale_any x s w hx hT
  unfold ScalePostB at this
  rw [hn, hc] at this; exact this
end Go.Proofs.YtnkiieiebldpoaaDoor
