/- The sanity check of the laws on rectangles: it returns true; new blocks come at most. -/
import Derived.Test.YtbdedlmpcdelfaaRRcs
namespace Go.Proofs.Ytbdedlmpcdelfaa
open Go.ChangeShapes Go.WideShapes Go.ChangeAt Go.RowKit
set_option linter.unusedVariables false
set_option linter.unusedSimpArgs false

theorem empty_is {a b c d : Int} {v : Bool} (h : emptyB a b c d = v) (w : World) : Calls Try.prog 23 #[.agg #[.int .i64 a, .int .i64 b, .int .i64 c, .int .i64 d]] w (TestPost v w) := h ▸ empty_any a b c d w
theorem area_is {a b c d : Int} {v : Int} (h : areaN a b c d = v) (w : World) : Calls Try.prog 12 #[.agg #[.int .i64 a, .int .i64 b, .int .i64 c, .int .i64 d]] w (NumPost v w) := h ▸ area_any a b c d w
set_option maxRecDepth 100000 in
set_option maxHeartbeats 4000000 in
theorem sane_any (w : World) : Calls Try.prog 13 #[] w (TestPost true w) := by
  have hL : subL 0 0 4 4 1 1 2 2 = [⟨0, 0, 4, 1⟩, ⟨0, 1, 1, 2⟩, ⟨2, 1, 4, 2⟩, ⟨0, 2, 4, 4⟩] := by decide +kernel
  have hI : interR 0 0 4 4 2 1 9 3 = ⟨2, 1, 4, 3⟩ := by decide +kernel
  have hA : areaN 0 0 4 4 = 16 := by decide +kernel
  have hV : validB 0 0 4 4 = true := by decide +kernel
  have hE : emptyB 0 0 0 0 = true := by decide +kernel
  have hL' := Lib.hid hL
  have hI' := Lib.hid hI
  have hA' := Lib.hid hA
  have hV' := Lib.hid hV
  have hE' := Lib.hid hE
  clear hL hI hA hV hE
  go_enter Try.func13, Try.ntmps13
  go_wp2_with fail
  refine (sub_rcs hL'.out _).mono ?_; rintro e w1 ⟨s, cap, rfl, hR, hb⟩
  obtain ⟨hc, hf⟩ := bcell hb
  have z0 := sz1 hb
  obtain ⟨g, rfl, k0, k1, k2, k3⟩ := hR 1 (by decide)
  have g0 : g < w1.heap.size := World.block_lt_of_cell? _ _ k0
  clear hR
  simp only [List.getD_cons_succ, List.getD_cons_zero, Nat.reduceMul, Nat.reduceAdd] at k0 k1 k2 k3
  have e4 : (↑(List.length [Rc.mk 0 0 4 1, Rc.mk 0 1 1 2, Rc.mk 2 1 4 2, Rc.mk 0 2 4 4]) : Int) = 4 := rfl
  go_wp2_with fail
  refine (inter_is hI'.out _).mono ?_; rintro e w2 ⟨rfl, hb2⟩
  obtain ⟨hc2, hf2⟩ := bcell hb2
  have y0 := bmore hb2 z0
  have g1 := bmore hb2 g0
  go_wp2_with fail
  refine (area_is hA'.out _).mono ?_; rintro e w3 ⟨rfl, hb3⟩
  obtain ⟨hc3, hf3⟩ := bcell hb3
  have x0 := bmore hb3 y0
  go_wp2_with fail
  refine (valid_is hV'.out _).mono ?_; rintro e w4 ⟨rfl, hb4⟩
  obtain ⟨hc4, hf4⟩ := bcell hb4
  go_wp2_with fail
  refine (empty_is hE'.out _).mono ?_; rintro e w5 ⟨rfl, hb5⟩
  go_wp2_with fail
  go_ret
  exact ⟨rfl, bthen (bthen (bthen (bthen (bthen (balloc (bref w) _) hb) hb2) hb3) hb4) hb5⟩
end Go.Proofs.Ytbdedlmpcdelfaa
