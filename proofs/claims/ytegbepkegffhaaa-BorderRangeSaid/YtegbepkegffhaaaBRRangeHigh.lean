/- The contract of the reference's Range where the range is cut to its first coordinate: its three results are the bounds of the range. -/
import Derived.Test.YtegbepkegffhaaaBRRange
namespace Go.Proofs.Ytegbepkegffhaaa
open Go.ChangeShapes Go.WideShapes Go.ChangeAt Go.RowKit
set_option linter.unusedVariables false
set_option linter.unusedSimpArgs false

theorem by_cases_per {a b n p lo hi : Int} {f : Bool} (hp0 : ¬ p = 0) (hp3 : ¬ p = 3) (n1 : 1 ≤ n) (hl : 600 < b - a) (n2 : n ≤ 128) (h : Scan a (a + 2 * n) n p lo hi f) : Scan a b n p lo hi f := by
  by_cases g : p = 1 ∨ p = 2
  · exact scan_period n1 g (by omega) h
  · exact scan_pol (by omega) h
theorem rrange_high0 (a b n : Int) (w : World) (a0 : -1048576 ≤ a) (a1 : a ≤ 1048576) (b0 : -1048576 ≤ b) (b1 : b ≤ 1048576) (hl : 600 < b - a) (n1 : 1 ≤ n) (n2 : n ≤ 128) (hb : ¬ b - 1 < 0) (ha : n ≤ a) :
    Calls Try.prog 18 #[.int .i64 a, .int .i64 b, .int .i64 n, .int .i64 0] w (RangePost a b n 0 w) := by
  go_enter Try.func18, Try.ntmps18
  go_wp2_with fail
  refine (rindex_any _ _ _ _ (by omega) (by omega)).mono ?_; rintro e w1 ⟨rfl, rfl⟩
  obtain ⟨v1, v2⟩ := idx_val (idx_clamp (i := a) n1 n2)
  simp only [v1, v2]
  clear v1 v2
  go_wp2_with fail
  go_loop [13, 14, 15, 16] (fun x y f i => ∃ (lo hi : Int) (g : Bool) (j : Int), x = .int .i64 lo ∧ y = .int .i64 hi ∧ f = .bool g ∧ i = .int .i64 j ∧ ((a) ≤ j ∧ j ≤ max (a) (a + 1)) ∧ Scan (a) j n 0 lo hi g) (fun _ _ _ i => ((a + 1) - intOf i).toNat)
  case atStart => exact ⟨0, 0, false, a, rfl, rfl, rfl, by go_num, ⟨by omega, by omega⟩, scan_start _ _ _⟩
  case round =>
    obtain ⟨lo, hi, g, j, rfl, rfl, rfl, rfl, ⟨j0, j1⟩, HE⟩ := hrel
    have HE' := Lib.hid HE
    clear HE
    by_cases hlt : j < (a + 1)
    · go_wp2_with fail
      refine (rindex_any _ _ _ _ (by omega) (by omega)).mono ?_; rintro e w1 ⟨rfl, rfl⟩
      rcases hk : idxO j n 0 with _ | k
      · obtain ⟨v1, v2⟩ := idx_nval hk
        simp only [v1, v2]
        have HS := Lib.hid (scan_skip HE'.out j0 hk)
        clear hk v1 v2
        go_wp2_with fail
        go_round
        case rel => exact ⟨_, _, _, j + 1, rfl, rfl, rfl, by go_num, ⟨by omega, by omega⟩, HS.out⟩
        case measure => simp [intOf]; omega
      · obtain ⟨v1, v2⟩ := idx_val hk
        simp only [v1, v2]
        have HK := Lib.hid hk
        clear hk v1 v2
        rcases g with _ | _
        · go_wp2_with fail
          go_round
          case rel => exact ⟨_, _, _, j + 1, rfl, rfl, rfl, by go_num, ⟨by omega, by omega⟩, scan_some HE'.out j0 HK.out (by simp) (by simp)⟩
          case measure => simp [intOf]; omega
        · go_wp2_with fail
          all_goals
            go_round
            case rel => exact ⟨_, _, _, j + 1, rfl, rfl, rfl, by go_num, ⟨by omega, by omega⟩, scan_some HE'.out j0 HK.out (by simp <;> omega) (by simp <;> omega)⟩
            case measure => simp [intOf]; omega
    · have hj : j = max (a) (a + 1) := by omega
      go_wp2_with fail
      go_ret3
      have HF := HE'.out
      rw [hj] at HF
      exact ⟨_, _, _, rfl, scan_end ⟨a0, a1⟩ ⟨b0, b1⟩ (scan_clamp_high (by omega) n1 (by omega) ha (scan_max HF)), rfl⟩
theorem rrange_high3 (a b n : Int) (w : World) (a0 : -1048576 ≤ a) (a1 : a ≤ 1048576) (b0 : -1048576 ≤ b) (b1 : b ≤ 1048576) (hl : 600 < b - a) (n1 : 1 ≤ n) (n2 : n ≤ 128) (hb : ¬ b - 1 < 0) (ha : n ≤ a) :
    Calls Try.prog 18 #[.int .i64 a, .int .i64 b, .int .i64 n, .int .i64 3] w (RangePost a b n 3 w) := by
  go_enter Try.func18, Try.ntmps18
  go_wp2_with fail
  refine (rindex_any _ _ _ _ (by omega) (by omega)).mono ?_; rintro e w1 ⟨rfl, rfl⟩
  obtain ⟨v1, v2⟩ := idx_val (idx_clamp (i := a) n1 n2)
  simp only [v1, v2]
  clear v1 v2
  go_wp2_with fail
  go_loop [13, 14, 15, 16] (fun x y f i => ∃ (lo hi : Int) (g : Bool) (j : Int), x = .int .i64 lo ∧ y = .int .i64 hi ∧ f = .bool g ∧ i = .int .i64 j ∧ ((a) ≤ j ∧ j ≤ max (a) (a + 1)) ∧ Scan (a) j n 3 lo hi g) (fun _ _ _ i => ((a + 1) - intOf i).toNat)
  case atStart => exact ⟨0, 0, false, a, rfl, rfl, rfl, by go_num, ⟨by omega, by omega⟩, scan_start _ _ _⟩
  case round =>
    obtain ⟨lo, hi, g, j, rfl, rfl, rfl, rfl, ⟨j0, j1⟩, HE⟩ := hrel
    have HE' := Lib.hid HE
    clear HE
    by_cases hlt : j < (a + 1)
    · go_wp2_with fail
      refine (rindex_any _ _ _ _ (by omega) (by omega)).mono ?_; rintro e w1 ⟨rfl, rfl⟩
      rcases hk : idxO j n 3 with _ | k
      · obtain ⟨v1, v2⟩ := idx_nval hk
        simp only [v1, v2]
        have HS := Lib.hid (scan_skip HE'.out j0 hk)
        clear hk v1 v2
        go_wp2_with fail
        go_round
        case rel => exact ⟨_, _, _, j + 1, rfl, rfl, rfl, by go_num, ⟨by omega, by omega⟩, HS.out⟩
        case measure => simp [intOf]; omega
      · obtain ⟨v1, v2⟩ := idx_val hk
        simp only [v1, v2]
        have HK := Lib.hid hk
        clear hk v1 v2
        rcases g with _ | _
        · go_wp2_with fail
          go_round
          case rel => exact ⟨_, _, _, j + 1, rfl, rfl, rfl, by go_num, ⟨by omega, by omega⟩, scan_some HE'.out j0 HK.out (by simp) (by simp)⟩
          case measure => simp [intOf]; omega
        · go_wp2_with fail
          all_goals
            go_round
            case rel => exact ⟨_, _, _, j + 1, rfl, rfl, rfl, by go_num, ⟨by omega, by omega⟩, scan_some HE'.out j0 HK.out (by simp <;> omega) (by simp <;> omega)⟩
            case measure => simp [intOf]; omega
    · have hj : j = max (a) (a + 1) := by omega
      go_wp2_with fail
      go_ret3
      have HF := HE'.out
      rw [hj] at HF
      exact ⟨_, _, _, rfl, scan_end ⟨a0, a1⟩ ⟨b0, b1⟩ (scan_clamp_high (by omega) n1 (by omega) ha (scan_max HF)), rfl⟩
theorem rrange_per (a b n p : Int) (w : World) (a0 : -1048576 ≤ a) (a1 : a ≤ 1048576) (b0 : -1048576 ≤ b) (b1 : b ≤ 1048576) (hl : 600 < b - a) (n1 : 1 ≤ n) (n2 : n ≤ 128) (hp0 : ¬ p = 0) (hp3 : ¬ p = 3) :
    Calls Try.prog 18 #[.int .i64 a, .int .i64 b, .int .i64 n, .int .i64 p] w (RangePost a b n p w) := by
  have P0 := Lib.hid hp0
  have P3 := Lib.hid hp3
  have q0 : (p == 0) = false := by simpa using hp0
  have q3 : (p == 3) = false := by simpa using hp3
  clear hp0 hp3
  go_enter Try.func18, Try.ntmps18
  go_wp2_with fail
  refine (rindex_any _ _ _ _ (by omega) (by omega)).mono ?_; rintro e w1 ⟨rfl, rfl⟩
  obtain ⟨v1, v2⟩ := idx_val (idx_clamp (i := a) n1 n2)
  simp only [v1, v2]
  clear v1 v2
  go_wp2_with fail
  go_loop [13, 14, 15, 16] (fun x y f i => ∃ (lo hi : Int) (g : Bool) (j : Int), x = .int .i64 lo ∧ y = .int .i64 hi ∧ f = .bool g ∧ i = .int .i64 j ∧ ((a) ≤ j ∧ j ≤ max (a) (a + 2 * n)) ∧ Scan (a) j n p lo hi g) (fun _ _ _ i => ((a + 2 * n) - intOf i).toNat)
  case atStart => exact ⟨0, 0, false, a, rfl, rfl, rfl, by go_num, ⟨by omega, by omega⟩, scan_start _ _ _⟩
  case round =>
    obtain ⟨lo, hi, g, j, rfl, rfl, rfl, rfl, ⟨j0, j1⟩, HE⟩ := hrel
    have HE' := Lib.hid HE
    clear HE
    by_cases hlt : j < (a + 2 * n)
    · go_wp2_with fail
      refine (rindex_any _ _ _ _ (by omega) (by omega)).mono ?_; rintro e w1 ⟨rfl, rfl⟩
      rcases hk : idxO j n p with _ | k
      · obtain ⟨v1, v2⟩ := idx_nval hk
        simp only [v1, v2]
        have HS := Lib.hid (scan_skip HE'.out j0 hk)
        clear hk v1 v2
        go_wp2_with fail
        go_round
        case rel => exact ⟨_, _, _, j + 1, rfl, rfl, rfl, by go_num, ⟨by omega, by omega⟩, HS.out⟩
        case measure => simp [intOf]; omega
      · obtain ⟨v1, v2⟩ := idx_val hk
        simp only [v1, v2]
        have HK := Lib.hid hk
        clear hk v1 v2
        rcases g with _ | _
        · go_wp2_with fail
          go_round
          case rel => exact ⟨_, _, _, j + 1, rfl, rfl, rfl, by go_num, ⟨by omega, by omega⟩, scan_some HE'.out j0 HK.out (by simp) (by simp)⟩
          case measure => simp [intOf]; omega
        · go_wp2_with fail
          all_goals
            go_round
            case rel => exact ⟨_, _, _, j + 1, rfl, rfl, rfl, by go_num, ⟨by omega, by omega⟩, scan_some HE'.out j0 HK.out (by simp <;> omega) (by simp <;> omega)⟩
            case measure => simp [intOf]; omega
    · have hj : j = max (a) (a + 2 * n) := by omega
      go_wp2_with fail
      go_ret3
      have HF := HE'.out
      rw [hj] at HF
      exact ⟨_, _, _, rfl, scan_end ⟨a0, a1⟩ ⟨b0, b1⟩ (by_cases_per P0.out P3.out n1 hl n2 (scan_max HF)), rfl⟩
end Go.Proofs.Ytegbepkegffhaaa
