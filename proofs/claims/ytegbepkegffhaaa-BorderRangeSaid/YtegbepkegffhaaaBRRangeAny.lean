/- The contract of the reference's Range for all integers. -/
import Derived.Test.YtegbepkegffhaaaBRRangeLow
import Derived.Test.YtegbepkegffhaaaBRRangeHigh
import Derived.Test.YtegbepkegffhaaaBRRangeMid
namespace Go.Proofs.Ytegbepkegffhaaa
set_option linter.unusedVariables false

theorem rrange_any (a b n p : Int) (w : World) : Calls Try.prog 18 #[.int .i64 a, .int .i64 b, .int .i64 n, .int .i64 p] w (RangePost a b n p w) := by
  by_cases hc : InC a ∧ InC b
  · obtain ⟨⟨a0, a1⟩, b0, b1⟩ := hc
    by_cases hl : b - a ≤ 600
    · exact rrange_short a b n p w a0 a1 b0 b1 hl
    have hl' : 600 < b - a := by omega
    by_cases hn : n < 1 ∨ 128 < n
    · exact rrange_len a b n p w a0 a1 b0 b1 hl' hn
    have n1 : 1 ≤ n := by omega
    have n2 : n ≤ 128 := by omega
    by_cases hp0 : p = 0
    · subst hp0
      by_cases hb : b - 1 < 0
      · exact rrange_low0 a b n w a0 a1 b0 b1 hl' n1 n2 hb
      by_cases ha : n ≤ a
      · exact rrange_high0 a b n w a0 a1 b0 b1 hl' n1 n2 hb ha
      · exact rrange_mid0 a b n w a0 a1 b0 b1 hl' n1 n2 hb (by omega)
    by_cases hp3 : p = 3
    · subst hp3
      by_cases hb : b - 1 < 0
      · exact rrange_low3 a b n w a0 a1 b0 b1 hl' n1 n2 hb
      by_cases ha : n ≤ a
      · exact rrange_high3 a b n w a0 a1 b0 b1 hl' n1 n2 hb ha
      · exact rrange_mid3 a b n w a0 a1 b0 b1 hl' n1 n2 hb (by omega)
    exact rrange_per a b n p w a0 a1 b0 b1 hl' n1 n2 hp0 hp3
  · exact rrange_far a b n p w hc
end Go.Proofs.Ytegbepkegffhaaa
