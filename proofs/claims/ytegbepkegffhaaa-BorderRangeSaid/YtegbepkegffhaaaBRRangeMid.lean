/- The contract of the reference's Range where the range is cut to the plane and one coordinate on each side: its three results are the bounds of the range. -/
import Derived.Test.YtegbepkegffhaaaBRRange
namespace Go.Proofs.Ytegbepkegffhaaa
open Go.ChangeShapes Go.WideShapes Go.ChangeAt Go.RowKit
set_option linter.unusedVariables false
set_option linter.unusedSimpArgs false

theorem rrange_mid0 (a b n : Int) (w : World) (a0 : -1048576 ≤ a) (a1 : a ≤ 1048576) (b0 : -1048576 ≤ b) (b1 : b ≤ 1048576) (hl : 600 < b - a) (n1 : 1 ≤ n) (n2 : n ≤ 128) (hb : ¬ b - 1 < 0) (ha : a < n) :
    Calls Try.prog 18 #[.int .i64 a, .int .i64 b, .int .i64 n, .int .i64 0] w (RangePost a b n 0 w) := by
  go_enter Try.func18, Try.ntmps18
  go_wp2_with fail
  refine (rindex_any _ _ _ _ (by omega) (by omega)).mono ?_; rintro e w1 ⟨rfl, rfl⟩
  obtain ⟨v1, v2⟩ := idx_val (idx_clamp (i := a) n1 n2)
  simp only [v1, v2]
  clear v1 v2
  go_wp2_with fail
  go_loop [13, 14, 15, 16] (fun x y f i => ∃ (lo hi : Int) (g : Bool) (j : Int), x = .int .i64 lo ∧ y = .int .i64 hi ∧ f = .bool g ∧ i = .int .i64 j ∧ ((max a (-1)) ≤ j ∧ j ≤ max (max a (-1)) (min b (n + 1))) ∧ Scan (max a (-1)) j n 0 lo hi g) (fun _ _ _ i => ((min b (n + 1)) - intOf i).toNat)
  case atStart => exact ⟨0, 0, false, max a (-1), rfl, rfl, rfl, by go_num, ⟨by omega, by omega⟩, scan_start _ _ _⟩
  case round =>
    obtain ⟨lo, hi, g, j, rfl, rfl, rfl, rfl, ⟨j0, j1⟩, HE⟩ := hrel
    have HE' := Lib.hid HE
    clear HE
    by_cases hlt : j < (min b (n + 1))
    · go_wp2_with fail
      refine (rindex_any _ _ _ _ (by omega) (by omega)).mono ?_; rintro e w1 ⟨rfl, rfl⟩
      rcases hk : idxO j n 0 with _ | k
      · obtain ⟨v1, v2⟩ := idx_nval hk
        simp only [v1, v2]
        have HS := Lib.hid (scan_skip HE'.out j0 hk)
        clear hk v1 v2
        go_wp2_with fail
        go_round
        case rel => exact ⟨_, _, _, j + 1, rfl, rfl, rfl, by go_num, ⟨by omega, by omega⟩, HS.out⟩
        case measure => simp [intOf]; omega
      · obtain ⟨v1, v2⟩ := idx_val hk
        simp only [v1, v2]
        have HK := Lib.hid hk
        clear hk v1 v2
        rcases g with _ | _
        · go_wp2_with fail
          go_round
          case rel => exact ⟨_, _, _, j + 1, rfl, rfl, rfl, by go_num, ⟨by omega, by omega⟩, scan_some HE'.out j0 HK.out (by simp) (by simp)⟩
          case measure => simp [intOf]; omega
        · go_wp2_with fail
          all_goals
            go_round
            case rel => exact ⟨_, _, _, j + 1, rfl, rfl, rfl, by go_num, ⟨by omega, by omega⟩, scan_some HE'.out j0 HK.out (by simp <;> omega) (by simp <;> omega)⟩
            case measure => simp [intOf]; omega
    · have hj : j = max (max a (-1)) (min b (n + 1)) := by omega
      go_wp2_with fail
      go_ret3
      have HF := HE'.out
      rw [hj] at HF
      exact ⟨_, _, _, rfl, scan_end ⟨a0, a1⟩ ⟨b0, b1⟩ (scan_clamp_mid (by omega) n1 (by omega) ha (by omega) (scan_max HF)), rfl⟩
theorem rrange_mid3 (a b n : Int) (w : World) (a0 : -1048576 ≤ a) (a1 : a ≤ 1048576) (b0 : -1048576 ≤ b) (b1 : b ≤ 1048576) (hl : 600 < b - a) (n1 : 1 ≤ n) (n2 : n ≤ 128) (hb : ¬ b - 1 < 0) (ha : a < n) :
    Calls Try.prog 18 #[.int .i64 a, .int .i64 b, .int .i64 n, .int .i64 3] w (RangePost a b n 3 w) := by
  go_enter Try.func18, Try.ntmps18
  go_wp2_with fail
  refine (rindex_any _ _ _ _ (by omega) (by omega)).mono ?_; rintro e w1 ⟨rfl, rfl⟩
  obtain ⟨v1, v2⟩ := idx_val (idx_clamp (i := a) n1 n2)
  simp only [v1, v2]
  clear v1 v2
  go_wp2_with fail
  go_loop [13, 14, 15, 16] (fun x y f i => ∃ (lo hi : Int) (g : Bool) (j : Int), x = .int .i64 lo ∧ y = .int .i64 hi ∧ f = .bool g ∧ i = .int .i64 j ∧ ((max a (-1)) ≤ j ∧ j ≤ max (max a (-1)) (min b (n + 1))) ∧ Scan (max a (-1)) j n 3 lo hi g) (fun _ _ _ i => ((min b (n + 1)) - intOf i).toNat)
  case atStart => exact ⟨0, 0, false, max a (-1), rfl, rfl, rfl, by go_num, ⟨by omega, by omega⟩, scan_start _ _ _⟩
  case round =>
    obtain ⟨lo, hi, g, j, rfl, rfl, rfl, rfl, ⟨j0, j1⟩, HE⟩ := hrel
    have HE' := Lib.hid HE
    clear HE
    by_cases hlt : j < (min b (n + 1))
    · go_wp2_with fail
      refine (rindex_any _ _ _ _ (by omega) (by omega)).mono ?_; rintro e w1 ⟨rfl, rfl⟩
      rcases hk : idxO j n 3 with _ | k
      · obtain ⟨v1, v2⟩ := idx_nval hk
        simp only [v1, v2]
        have HS := Lib.hid (scan_skip HE'.out j0 hk)
        clear hk v1 v2
        go_wp2_with fail
        go_round
        case rel => exact ⟨_, _, _, j + 1, rfl, rfl, rfl, by go_num, ⟨by omega, by omega⟩, HS.out⟩
        case measure => simp [intOf]; omega
      · obtain ⟨v1, v2⟩ := idx_val hk
        simp only [v1, v2]
        have HK := Lib.hid hk
        clear hk v1 v2
        rcases g with _ | _
        · go_wp2_with fail
          go_round
          case rel => exact ⟨_, _, _, j + 1, rfl, rfl, rfl, by go_num, ⟨by omega, by omega⟩, scan_some HE'.out j0 HK.out (by simp) (by simp)⟩
          case measure => simp [intOf]; omega
        · go_wp2_with fail
          all_goals
            go_round
            case rel => exact ⟨_, _, _, j + 1, rfl, rfl, rfl, by go_num, ⟨by omega, by omega⟩, scan_some HE'.out j0 HK.out (by simp <;> omega) (by simp <;> omega)⟩
            case measure => simp [intOf]; omega
    · have hj : j = max (max a (-1)) (min b (n + 1)) := by omega
      go_wp2_with fail
      go_ret3
      have HF := HE'.out
      rw [hj] at HF
      exact ⟨_, _, _, rfl, scan_end ⟨a0, a1⟩ ⟨b0, b1⟩ (scan_clamp_mid (by omega) n1 (by omega) ha (by omega) (scan_max HF)), rfl⟩
end Go.Proofs.Ytegbepkegffhaaa
