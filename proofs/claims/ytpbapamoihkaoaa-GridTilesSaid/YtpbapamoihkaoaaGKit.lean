/- Contracts of the generator's remainder and of the reference's rectangles at results that are known, for the laws of layer 5. -/
import Derived.Test.YtpbapamoihkaoaaGSane
import Derived.Test.YtpbapamoihkaoaaList
namespace Go.Proofs.Ytpbapamoihkaoaa
open Go.ChangeShapes Go.WideShapes Go.ChangeAt Go.RowKit
set_option linter.unusedVariables false
set_option linter.unusedSimpArgs false

theorem mod_rng (v n : Int) (w : World) (h0 : 0 < n) (h1 : n ≤ 9223372036854775807) (h2 : -9223372036854775808 ≤ v) (h3 : v ≤ 9223372036854775807) {r : Int} (hr : v % n = r) :
    Calls Try.prog 7 #[.int .i64 v, .int .i64 n] w fun e w' => e = .returned (.int .i64 r) ∧ w = w' := by
  subst hr; exact mod_any v n w h0 h1 h2 h3
theorem hid_below {w a b : World} (hb : Below a.heap.size a b) (h : Hid (Below w.heap.size w a)) : Hid (Below w.heap.size w b) := Lib.hid (bthen h.out hb)
theorem mod_rq (v n : Int) (w : World) (h0 : 0 < n) (h1 : n ≤ 9223372036854775807) (h2 : -9223372036854775808 ≤ v) (h3 : v ≤ 9223372036854775807) {r : Int} (hr : v % n = r) :
    Calls Try.prog 7 #[.int .i64 v, .int .i64 n] w fun e w' => e = .returned (.int .i64 r) ∧ w' = w := by
  subst hr; exact mod_q v n w h0 h1 h2 h3
theorem rinside_is {a b c d e f g h : Int} {v : Bool} (hv : insideB a b c d e f g h = v) (w : World) : Calls Try.prog 16 #[.agg #[.int .i64 a, .int .i64 b, .int .i64 c, .int .i64 d], .agg #[.int .i64 e, .int .i64 f, .int .i64 g, .int .i64 h]] w (TestPost v w) := hv ▸ rinside_any a b c d e f g h w
theorem rarea_is {a b c d n : Int} (hn : areaN a b c d = n) (w : World) : Calls Try.prog 17 #[.agg #[.int .i64 a, .int .i64 b, .int .i64 c, .int .i64 d]] w (NumPost n w) := hn ▸ rarea_any a b c d w
theorem rcontains_is {a b c d x y : Int} {v : Bool} (hv : containsB a b c d x y = v) (w : World) : Calls Try.prog 18 #[.agg #[.int .i64 a, .int .i64 b, .int .i64 c, .int .i64 d], .int .i64 x, .int .i64 y] w (TestPost v w) := hv ▸ rcontains_any a b c d x y w
end Go.Proofs.Ytpbapamoihkaoaa
