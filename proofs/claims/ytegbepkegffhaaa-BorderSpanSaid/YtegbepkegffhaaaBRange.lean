/- The bounds of a range of coordinates, as the contract of Range of package border: by the ends, by a scan over at most two lengths, by cutting to the plane. -/
import Derived.Test.YtegbepkegffhaaaBIndex
import Derived.Test.YtegbepkegffhaaaBFacts
import Derived.Lib.MinMax
namespace Go.Proofs.Ytegbepkegffhaaa
open Go.ChangeShapes Go.WideShapes Go.ChangeAt Go.RowKit
set_option linter.unusedVariables false
set_option linter.unusedSimpArgs false

/-- what the scan over coordinates that are all mapped knows so far -/
def Ends (a i n p lo hi : Int) : Prop := (i = a ∧ lo = n - 1 ∧ hi = 0) ∨ (a < i ∧ Spans a i n p lo hi)
theorem ends_step {a i n p lo hi k : Int} (h : Ends a i n p lo hi) (ha : a ≤ i) (hk : idxO i n p = some k) : Ends a (i + 1) n p (min lo k) (max hi k) := by
  refine .inr ⟨by omega, ?_⟩
  have hb := idx_bd hk
  rcases h with ⟨rfl, rfl, rfl⟩ | ⟨hlt, ⟨i1, a1, b1, c1⟩, ⟨i2, a2, b2, c2⟩, hall⟩
  · rw [show min (n - 1) k = k by omega, show max 0 k = k by omega]
    refine ⟨⟨i, by omega, by omega, hk⟩, ⟨i, by omega, by omega, hk⟩, fun j q h1 h2 h3 => ?_⟩
    obtain rfl : j = i := by omega
    rw [hk] at h3; simp only [Option.some.injEq] at h3; omega
  · refine ⟨?_, ?_, fun j q h1 h2 h3 => ?_⟩
    · by_cases g : lo ≤ k
      · exact ⟨i1, a1, by omega, by rw [show min lo k = lo by omega]; exact c1⟩
      · exact ⟨i, by omega, by omega, by rw [show min lo k = k by omega]; exact hk⟩
    · by_cases g : k ≤ hi
      · exact ⟨i2, a2, by omega, by rw [show max hi k = hi by omega]; exact c2⟩
      · exact ⟨i, by omega, by omega, by rw [show max hi k = k by omega]; exact hk⟩
    · by_cases e : j = i
      · subst e
        rw [hk] at h3; simp only [Option.some.injEq] at h3; omega
      · have := hall j q h1 (by omega) h3
        omega
theorem ends_end {a b n p lo hi : Int} (h : Ends a b n p lo hi) (hlt : a < b) : Spans a b n p lo hi := by
  rcases h with ⟨rfl, _, _⟩ | ⟨_, hs⟩
  · omega
  · exact hs
theorem idx_val {i n p k : Int} (h : idxO i n p = some k) : idxN i n p = k ∧ idxB i n p = true := by simp [idxN, idxB, h]
/-- the least and the greatest coordinate of a range that is not empty -/
def EndsPost (a b n p : Int) (w : World) (e : Ending) (w' : World) : Prop := ∃ lo hi : Int, e = .returned (.tuple #[.int .i64 lo, .int .i64 hi]) ∧ Spans a b n p lo hi ∧ w = w'
theorem extremes_any (a b n p : Int) (w : World) (ha : InC a) (hb : InC b) (hab : a < b) (n1 : 1 ≤ n) (n2 : n ≤ 128) (hp : 0 ≤ p ∧ p ≤ 2) :
    Calls Try.prog 23 #[.int .i64 a, .int .i64 b, .int .i64 n, .int .i64 p] w (EndsPost a b n p w) := by
  obtain ⟨a0, a1⟩ := ha
  obtain ⟨b0, b1⟩ := hb
  go_enter Try.func23, Try.ntmps23
  go_wp2_with fail
  go_loop [8, 9, 10] (fun x y i => ∃ lo hi j : Int, x = .int .i64 lo ∧ y = .int .i64 hi ∧ i = .int .i64 j ∧ (a ≤ j ∧ j ≤ b) ∧ Ends a j n p lo hi) (fun _ _ i => (b - intOf i).toNat)
  case atStart => exact ⟨n - 1, 0, a, rfl, rfl, rfl, ⟨by omega, by omega⟩, .inl ⟨rfl, rfl, rfl⟩⟩
  case round =>
    obtain ⟨lo, hi, j, rfl, rfl, rfl, ⟨j0, j1⟩, HE⟩ := hrel
    have HE' := Lib.hid HE
    clear HE
    by_cases hlt : j < b
    · go_wp2_with fail
      refine (index_any _ _ _ _ (by omega) (by omega)).mono ?_; rintro e w1 ⟨rfl, rfl⟩
      obtain ⟨k, hk⟩ := idx_there (i := j) n1 n2 hp
      obtain ⟨v1, v2⟩ := idx_val hk
      simp only [v1, v2]
      have HS := Lib.hid (ends_step HE'.out j0 hk)
      clear hk v1 v2
      go_wp2_with fail
      go_round
      case rel => exact ⟨_, _, j + 1, rfl, rfl, by go_num, ⟨by omega, by omega⟩, HS.out⟩
      case measure => simp [intOf]; omega
    · obtain rfl : j = b := by omega
      go_wp2_with fail
      go_ret2
      exact ⟨lo, hi, rfl, ends_end HE'.out hab, rfl⟩
end Go.Proofs.Ytegbepkegffhaaa
