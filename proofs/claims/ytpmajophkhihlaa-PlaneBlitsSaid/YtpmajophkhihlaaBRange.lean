/- The bounds of a range of coordinates, as the contract of Range of package border: by the ends, by a scan over at most two lengths, by cutting to the plane. -/
import Derived.Test.YtpmajophkhihlaaBIndex
import Derived.Test.YtpmajophkhihlaaBFacts
import Derived.Lib.MinMax
namespace Go.Proofs.Ytpmajophkhihlaa
open Go.ChangeShapes Go.WideShapes Go.ChangeAt Go.RowKit
set_option linter.unusedVariables false
set_option linter.unusedSimpArgs false

/-- what the scan over coordinates that are all mapped knows so far -/
def Ends (a i n p lo hi : Int) : Prop := (i = a ∧ lo = n - 1 ∧ hi = 0) ∨ (a < i ∧ Spans a i n p lo hi)
theorem ends_step {a i n p lo hi k : Int} (h : Ends a i n p lo hi) (ha : a ≤ i) (hk : idxO i n p = some k) : Ends a (i + 1) n p (min lo k) (max hi k) := by
  refine .inr ⟨by omega, ?_⟩
  have hb := idx_bd hk
  rcases h with ⟨rfl, rfl, rfl⟩ | ⟨hlt, ⟨i1, a1, b1, c1⟩, ⟨i2, a2, b2, c2⟩, hall⟩
  · rw [show min (n - 1) k = k by omega, show max 0 k = k by omega]
    refine ⟨⟨i, by omega, by omega, hk⟩, ⟨i, by omega, by omega, hk⟩, fun j q h1 h2 h3 => ?_⟩
    obtain rfl : j = i := by omega
    rw [hk] at h3; simp only [Option.some.injEq] at h3; omega
  · refine ⟨?_, ?_, fun j q h1 h2 h3 => ?_⟩
    · by_cases g : lo ≤ k
      · exact ⟨i1, a1, by omega, by rw [show min lo k = lo by omega]; exact c1⟩
      · exact ⟨i, by omega, by omega, by rw [show min lo k = k by omega]; exact hk⟩
    · by_cases g : k ≤ hi
      · exact ⟨i2, a2, by omega, by rw [show max hi k = hi by omega]; exact c2⟩
      · exact ⟨i, by omega, by omega, by rw [show max hi k = k by omega]; exact hk⟩
    · by_cases e : j = i
      · subst e
        rw [hk] at h3; simp only [Option.some.injEq] at h3; omega
      · have := hall j q h1 (by omega) h3
        omega
theorem ends_end {a b n p lo hi : Int} (h : Ends a b n p lo hi) (hlt : a < b) : Spans a b n p lo hi := by
  rcases h with ⟨rfl, _, _⟩ | ⟨_, hs⟩
  · omega
  · exact hs
theorem idx_val {i n p k : Int} (h : idxO i n p = some k) : idxN i n p = k ∧ idxB i n p = true := by simp [idxN, idxB, h]
/-- the least and the greatest coordinate of a range that is not empty -/
def EndsPost (a b n p : Int) (w : World) (e : Ending) (w' : World) : Prop := ∃ lo hi : Int, e = .returned (.tuple #[.int .i64 lo, .int .i64 hi]) ∧ Spans a b n p lo hi ∧ w = w'
end Go.Proofs.Ytpmajophkhihlaa
