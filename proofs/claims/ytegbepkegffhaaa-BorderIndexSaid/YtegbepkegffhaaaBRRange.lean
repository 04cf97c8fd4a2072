/- The contract of the reference's Range where no range is cut: its three results are the bounds of the range. -/
import Derived.Test.YtegbepkegffhaaaBRIndex
import Derived.Test.YtegbepkegffhaaaBRangeB
namespace Go.Proofs.Ytegbepkegffhaaa
open Go.ChangeShapes Go.WideShapes Go.ChangeAt Go.RowKit
set_option linter.unusedVariables false
set_option linter.unusedSimpArgs false

theorem idx_nval {i n p : Int} (h : idxO i n p = none) : idxN i n p = 0 ∧ idxB i n p = false := by simp [idxN, idxB, h]
theorem scan_max {a b n p lo hi : Int} {f : Bool} (h : Scan a (max a b) n p lo hi f) : Scan a b n p lo hi f := by
  by_cases g : a ≤ b
  · rw [show max a b = b by omega] at h; exact h
  · rw [show max a b = a by omega] at h
    rcases h with ⟨_, ⟨i, h1, h2, _⟩, _⟩ | ⟨rfl, rfl, rfl, hn⟩
    · omega
    · exact .inr ⟨rfl, rfl, rfl, fun i h1 h2 => by omega⟩
theorem scan_pol {a b c n p lo hi : Int} {f : Bool} (hp : p < 0 ∨ 3 < p) (h : Scan a c n p lo hi f) : Scan a b n p lo hi f := by
  rcases h with ⟨_, ⟨i, h1, h2, h3⟩, _⟩ | ⟨rfl, rfl, rfl, hn⟩
  · rw [idx_pol hp] at h3; cases h3
  · exact .inr ⟨rfl, rfl, rfl, fun i h1 h2 => idx_pol hp⟩
theorem rrange_far (a b n p : Int) (w : World) (h : ¬ (InC a ∧ InC b)) : Calls Try.prog 18 #[.int .i64 a, .int .i64 b, .int .i64 n, .int .i64 p] w (RangePost a b n p w) := by
  have h' := Lib.hid h
  have h2 : a < -1048576 ∨ 1048576 < a ∨ b < -1048576 ∨ 1048576 < b := by simp only [InC] at h; omega
  clear h
  go_enter Try.func18, Try.ntmps18
  rcases h2 with h2 | h2 | h2 | h2
  all_goals
    go_wp2_with fail
    all_goals
      go_ret3
      exact ⟨_, _, _, rfl, range_far h'.out, rfl⟩
theorem rrange_short (a b n p : Int) (w : World) (a0 : -1048576 ≤ a) (a1 : a ≤ 1048576) (b0 : -1048576 ≤ b) (b1 : b ≤ 1048576) (hl : b - a ≤ 600) :
    Calls Try.prog 18 #[.int .i64 a, .int .i64 b, .int .i64 n, .int .i64 p] w (RangePost a b n p w) := by
  go_enter Try.func18, Try.ntmps18
  go_wp2_with fail
  go_loop [13, 14, 15, 16] (fun x y f i => ∃ (lo hi : Int) (g : Bool) (j : Int), x = .int .i64 lo ∧ y = .int .i64 hi ∧ f = .bool g ∧ i = .int .i64 j ∧ ((a) ≤ j ∧ j ≤ max (a) (b)) ∧ Scan (a) j n p lo hi g) (fun _ _ _ i => ((b) - intOf i).toNat)
  case atStart => exact ⟨0, 0, false, a, rfl, rfl, rfl, by go_num, ⟨by omega, by omega⟩, scan_start _ _ _⟩
  case round =>
    obtain ⟨lo, hi, g, j, rfl, rfl, rfl, rfl, ⟨j0, j1⟩, HE⟩ := hrel
    have HE' := Lib.hid HE
    clear HE
    by_cases hlt : j < (b)
    · go_wp2_with fail
      refine (rindex_any _ _ _ _ (by omega) (by omega)).mono ?_; rintro e w1 ⟨rfl, rfl⟩
      rcases hk : idxO j n p with _ | k
      · obtain ⟨v1, v2⟩ := idx_nval hk
        simp only [v1, v2]
        have HS := Lib.hid (scan_skip HE'.out j0 hk)
        clear hk v1 v2
        go_wp2_with fail
        go_round
        case rel => exact ⟨_, _, _, j + 1, rfl, rfl, rfl, by go_num, ⟨by omega, by omega⟩, HS.out⟩
        case measure => simp [intOf]; omega
      · obtain ⟨v1, v2⟩ := idx_val hk
        simp only [v1, v2]
        have HK := Lib.hid hk
        clear hk v1 v2
        rcases g with _ | _
        · go_wp2_with fail
          go_round
          case rel => exact ⟨_, _, _, j + 1, rfl, rfl, rfl, by go_num, ⟨by omega, by omega⟩, scan_some HE'.out j0 HK.out (by simp) (by simp)⟩
          case measure => simp [intOf]; omega
        · go_wp2_with fail
          all_goals
            go_round
            case rel => exact ⟨_, _, _, j + 1, rfl, rfl, rfl, by go_num, ⟨by omega, by omega⟩, scan_some HE'.out j0 HK.out (by simp <;> omega) (by simp <;> omega)⟩
            case measure => simp [intOf]; omega
    · have hj : j = max (a) (b) := by omega
      go_wp2_with fail
      go_ret3
      have HF := HE'.out
      rw [hj] at HF
      exact ⟨_, _, _, rfl, scan_end ⟨a0, a1⟩ ⟨b0, b1⟩ (id (scan_max HF)), rfl⟩
end Go.Proofs.Ytegbepkegffhaaa
