/- The tape's bits of a float64 value, and its few weights near 1 / n, as contracts: some numbers of 64 bits come back. -/
import Derived.Test.YtjmdpebocchdhaaDoorFPlain
import Derived.Test.YtjmdpebocchdhaaDoorPickLit
namespace Go.Proofs.YtjmdpebocchdhaaDoor
open Go.ChangeShapes Go.WideShapes Go.ChangeAt Go.RowKit
set_option linter.unusedVariables false
set_option linter.unusedSimpArgs false

theorem u64_in (n : Int) : In64u (IntKind.u64.wrap n) := by rw [IntKind.wrap_u64]; unfold In64u; omega
theorem bits_in (o : BinOp) (a b : Int) : In64u (bits o .u64 a b) := by
  unfold bits
  split <;> exact u64_in _
/-- some bits came back -/
def BitsPost (W : World) (p : Nat) (a : Option Addr) (cap : Nat) (xs : List Int) (w : World) (e : Ending) (w' : World) : Prop := ∃ x : Int, e = .returned (.int .u64 x) ∧ In64u x ∧ TapeSome W w' p a cap xs ∧ w.grownBy w' (some p)
theorem bits_shl (m : Int) : In64u (IntKind.u64.wrap m) := u64_in m
set_option maxHeartbeats 2000000 in
theorem bits_some (W : World) (p : Nat) (a : Option Addr) (cap : Nat) (xs : List Int) (w : World) (h : TapeSome W w p a cap xs) :
    Calls Tryd.prog 34 #[.pointer (some ⟨p, 0, none⟩)] w (BitsPost W p a cap xs w) := by
  have hT0 := Lib.hid h
  clear h
  go_enter Tryd.func34, Tryd.ntmps34
  go_wp2_with fail
  refine (next_some W p a cap xs _ _ hT0.out (by omega) (by omega)).mono ?_; rintro e w1 ⟨m1, rfl, hm1, hT1, hg1⟩
  replace hT1 := Lib.hid hT1
  have hG1 := Lib.hid hg1
  clear hT0 hg1
  go_wp2_with fail
  refine (next_some W p a cap xs _ _ hT1.out (by omega) (by omega)).mono ?_; rintro e w2 ⟨m2, rfl, hm2, hT2, hg2⟩
  replace hT2 := Lib.hid hT2
  have hG2 := Lib.hid (gthen hG1.out hg2)
  clear hT1 hg2 hG1
  go_wp2_with fail
  · go_ret
    exact ⟨_, rfl, by first | exact u64_in _ | exact bits_in _ _ _ | (unfold In64u; omega), hT2.out, hG2.out⟩
  · refine (pick_lit (ys := [1, 2, 2251799813685248, 4503599627370495]) W p a cap xs _ _ _ _ hT2.out (by simp) (by simp) (by intro j hj; simp at hj; rcases (show j = 0 ∨ j = 1 ∨ j = 2 ∨ j = 3 by omega) with rfl | rfl | rfl | rfl <;> rfl)).mono ?_; rintro e w3 ⟨m3, rfl, hT3, hg3⟩
    have hT3 := Lib.hid hT3
    have hG3 := Lib.hid (gthen hG2.out hg3)
    clear hg3
    go_wp2_with fail
    go_ret
    exact ⟨_, rfl, bits_in _ _ _, hT3.out, hG3.out⟩
  · refine (pick_lit (ys := [0, 1, 2251799813685248]) W p a cap xs _ _ _ _ hT2.out (by simp) (by simp) (by intro j hj; simp at hj; rcases (show j = 0 ∨ j = 1 ∨ j = 2 by omega) with rfl | rfl | rfl <;> rfl)).mono ?_; rintro e w3 ⟨m3, rfl, hT3, hg3⟩
    have hT3 := Lib.hid hT3
    have hG3 := Lib.hid (gthen hG2.out hg3)
    clear hg3
    go_wp2_with fail
    go_ret
    exact ⟨_, rfl, bits_in _ _ _, hT3.out, hG3.out⟩
  · refine (pick_lit (ys := [1023, 1022, 1024, 1038, 1037, 960, 963]) W p a cap xs _ _ _ _ hT2.out (by simp) (by simp) (by intro j hj; simp at hj; rcases (show j = 0 ∨ j = 1 ∨ j = 2 ∨ j = 3 ∨ j = 4 ∨ j = 5 ∨ j = 6 by omega) with rfl | rfl | rfl | rfl | rfl | rfl | rfl <;> rfl)).mono ?_; rintro e w3 ⟨m3, rfl, hT3, hg3⟩
    have hT3 := Lib.hid hT3
    have hG3 := Lib.hid (gthen hG2.out hg3)
    clear hg3
    go_wp2_with fail
    go_ret
    exact ⟨_, rfl, bits_in _ _ _, hT3.out, hG3.out⟩
  all_goals
    refine (next_some W p a cap xs _ _ hT2.out (by omega) (by omega)).mono ?_; rintro e w3 ⟨m3, rfl, hm3, hT3, hg3⟩
    replace hT3 := Lib.hid hT3
    have hG3 := Lib.hid (gthen hG2.out hg3)
    clear hg3
    go_wp2_with fail
    refine (next_some W p a cap xs _ _ hT3.out (by omega) (by omega)).mono ?_; rintro e w4 ⟨m4, rfl, hm4, hT4, hg4⟩
    replace hT4 := Lib.hid hT4
    have hG4 := Lib.hid (gthen hG3.out hg4)
    clear hg4
    go_wp2_with fail
    go_ret
    exact ⟨_, rfl, bits_in _ _ _, hT4.out, hG4.out⟩
end Go.Proofs.YtjmdpebocchdhaaDoor
