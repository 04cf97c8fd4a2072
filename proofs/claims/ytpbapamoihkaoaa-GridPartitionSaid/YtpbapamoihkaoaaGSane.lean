/- The chapter's examples: the sanity check of layer 5 returns true; the world gets new blocks at most. -/
import Derived.Test.YtpbapamoihkaoaaGTouch
import Derived.Test.YtpbapamoihkaoaaGOf
namespace Go.Proofs.Ytpbapamoihkaoaa
open Go.ChangeShapes Go.WideShapes Go.ChangeAt Go.RowKit
set_option linter.unusedVariables false
set_option linter.unusedSimpArgs false

theorem gof_is {w h t u x y n : Int} {b : Bool} (hn : ofN w h t u x y = n) (hb : ofB w h t u x y = b) (w0 : World) : Calls Try.prog 8 #[.int .i64 w, .int .i64 h, .int .i64 t, .int .i64 u, .int .i64 x, .int .i64 y] w0 fun e w' => e = .returned (.tuple #[.int .i64 n, .bool b]) ∧ Below w0.heap.size w0 w' := by
  have := gof_any w h t u x y w0
  unfold OfPost at this
  rw [hn, hb] at this; exact this
theorem gtouch_is {w h t u a b c d : Int} {L : List Int} (hL : touchL w h t u a b c d = L) (w0 : World) : Calls Try.prog 19 #[.int .i64 w, .int .i64 h, .int .i64 t, .int .i64 u, .agg #[.int .i64 a, .int .i64 b, .int .i64 c, .int .i64 d]] w0 fun e w' => ∃ a cap, e = .returned (.slice a L.length cap) ∧ SliceIs w' a L ∧ Below w0.heap.size w0 w' := by
  subst hL; exact gtouch_any w h t u a b c d w0
theorem ex_col : colN 5 3 2 2 = 3 ∧ rowN 5 3 2 2 = 2 := by decide
theorem ex_tile : tileB 5 3 2 2 5 = true ∧ tileR 5 3 2 2 5 = ⟨4, 2, 5, 3⟩ := by decide
theorem ex_touch : touchL 5 3 2 2 1 1 3 2 = [0, 1] := by decide
theorem ex_of : ofN 5 3 2 2 4 2 = 5 ∧ ofB 5 3 2 2 4 2 = true := by decide
set_option maxHeartbeats 1000000 in
theorem sane_any (w : World) : Calls Try.prog 10 #[] w (TestPost true w) := by
  go_enter Try.func10, Try.ntmps10
  go_wp2_with fail
  refine (count_is ex_col.1 ex_col.2 _).mono ?_; rintro e w' ⟨rfl, rfl⟩
  go_wp2_with fail
  refine (gtile_is ex_tile.1 ex_tile.2 _).mono ?_; rintro e w1 ⟨rfl, hb⟩
  have hB1 := Lib.hid (balloc hb (.cells #[.int .i64 4, .int .i64 2, .int .i64 5, .int .i64 3] 31))
  have hX := Lib.hid (Box.new w1 4 2 5 3 31)
  clear hb
  go_wp2_with fail
  refine (gtouch_is ex_touch _).mono ?_; rintro e w2 ⟨a, cap, rfl, hs, hb⟩
  have hB2 := Lib.hid (bthen hB1.out hb)
  have hX2 := Lib.hid (hX.out.below hb)
  clear hB1 hX hb
  have hs' := Lib.hid hs
  clear hs
  go_wp2_with fail
  refine (gof_is ex_of.1 ex_of.2 _).mono ?_; rintro e w3 ⟨rfl, hb⟩
  have hB3 := Lib.hid (bthen hB2.out hb)
  have hX3 := Lib.hid (hX2.out.below hb)
  have hs3 := is_below hs'.out hb
  clear hB2 hX2 hb hs'
  obtain ⟨k0, k1, k2, k3⟩ := hX3.out
  obtain ⟨b, off, rfl, hc⟩ := hs3 1 (by decide)
  simp at hc
  clear hs3
  go_wp2_with fail
  go_ret
  exact ⟨rfl, hB3.out⟩
end Go.Proofs.Ytpbapamoihkaoaa
