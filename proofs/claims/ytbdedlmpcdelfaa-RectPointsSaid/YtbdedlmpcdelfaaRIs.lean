/- The contracts of the functions on rectangles at results that are known; two boxed rectangles. -/
import Derived.Test.YtbdedlmpcdelfaaRSane
import Derived.Test.YtbdedlmpcdelfaaRIn
import Derived.Test.YtbdedlmpcdelfaaRHull
import Derived.Test.YtbdedlmpcdelfaaROut
namespace Go.Proofs.Ytbdedlmpcdelfaa
open Go.ChangeShapes Go.WideShapes Go.ChangeAt Go.RowKit
set_option linter.unusedVariables false
set_option linter.unusedSimpArgs false

theorem hull_is {a b c d a' b' c' d' p q r s : Int} (h : hullR a b c d a' b' c' d' = ⟨p, q, r, s⟩) (w : World) : Calls Try.prog 22 #[.agg #[.int .i64 a, .int .i64 b, .int .i64 c, .int .i64 d], .agg #[.int .i64 a', .int .i64 b', .int .i64 c', .int .i64 d']] w
    fun e w' => e = .returned (.agg #[.int .i64 p, .int .i64 q, .int .i64 r, .int .i64 s]) ∧ Below w.heap.size w w' := by
  have := hull_any a b c d a' b' c' d' w
  unfold RcPost at this
  rw [h] at this
  exact this
theorem out_is {a b c d l t r u x0 y0 x1 y1 : Int} (h : outR a b c d l t r u = ⟨x0, y0, x1, y1⟩) (w : World) : Calls Try.prog 10 #[.agg #[.int .i64 a, .int .i64 b, .int .i64 c, .int .i64 d], .int .i64 l, .int .i64 t, .int .i64 r, .int .i64 u] w
    fun e w' => e = .returned (.agg #[.int .i64 x0, .int .i64 y0, .int .i64 x1, .int .i64 y1]) ∧ Below w.heap.size w w' := by
  have := out_any a b c d l t r u w
  unfold RcPost at this
  rw [h] at this
  exact this
theorem sub_len (a b c d e f g h : Int) : (subL a b c d e f g h).length ≤ 4 := by
  unfold subL
  split
  · split
    · simp
    · exact parts_le _ _ _ _ _ _
  · simp
theorem inS_start0 (w : World) (a b c d a' b' c' d' : Int) (t t' : TypeId) :
    InS w w.heap.size (w.heap.size + 1) a b c d a' b' c' d' ((w.alloc (.cells #[.int .i64 a, .int .i64 b, .int .i64 c, .int .i64 d] t)).alloc (.cells #[.int .i64 a', .int .i64 b', .int .i64 c', .int .i64 d'] t')) := by
  refine ⟨balloc (balloc (bref w) _) _, ?_, ?_, ?_, ?_, ?_, ?_, ?_, ?_⟩ <;> go_cell
theorem rvalid_is {a b c d : Int} {v : Bool} (h : validB a b c d = v) (w : World) : Calls Try.prog 17 #[.agg #[.int .i64 a, .int .i64 b, .int .i64 c, .int .i64 d]] w (TestPost v w) := h ▸ rvalid_any a b c d w
theorem inside_is {a b c d a' b' c' d' : Int} {v : Bool} (h : insideB a b c d a' b' c' d' = v) (w : World) : Calls Try.prog 11 #[.agg #[.int .i64 a, .int .i64 b, .int .i64 c, .int .i64 d], .agg #[.int .i64 a', .int .i64 b', .int .i64 c', .int .i64 d']] w (TestPost v w) := h ▸ inside_any a b c d a' b' c' d' w
theorem contains_is {a b c d u v : Int} {x : Bool} (h : containsB a b c d u v = x) (w : World) : Calls Try.prog 19 #[.agg #[.int .i64 a, .int .i64 b, .int .i64 c, .int .i64 d], .int .i64 u, .int .i64 v] w (TestPost x w) := h ▸ contains_any a b c d u v w
end Go.Proofs.Ytbdedlmpcdelfaa
