/- Mirroring, wrapping and clamping: symmetry, periods, continuity. Plain integers. -/
import Derived.Test.YtpmajophkhihlaaBPlain
namespace Go.Proofs.Ytpmajophkhihlaa
set_option linter.unusedVariables false

theorem idx_self {i n p : Int} (h1 : 1 ≤ n) (h2 : n ≤ 128) (h3 : 0 ≤ i) (h4 : i < n) (hp : 0 ≤ p ∧ p ≤ 3) : idxO i n p = some i := by
  have e1 : i % (2 * n) = i := Int.emod_eq_of_lt h3 (by omega)
  have e2 : i % n = i := Int.emod_eq_of_lt h3 h4
  rcases (show p = 0 ∨ p = 1 ∨ p = 2 ∨ p = 3 by omega) with rfl | rfl | rfl | rfl
  · rw [idx_clamp h1 h2]; congr 1; omega
  · rw [idx_mirror h1 h2, e1, if_neg (by omega)]
  · rw [idx_wrap h1 h2, e2]
  · exact idx_const h1 h2 h3 h4
/-- a coordinate by its place in a double period -/
theorem mirror_place {i n r t : Int} (h1 : 1 ≤ n) (h2 : n ≤ 128) (hr : 0 ≤ r ∧ r < 2 * n) (e : i = r + 2 * n * t) : idxO i n 1 = some (if n ≤ r then 2 * n - 1 - r else r) := by
  have hm : i % (2 * n) = r := by rw [e, Int.add_mul_emod_self_left]; exact Int.emod_eq_of_lt hr.1 hr.2
  rw [idx_mirror h1 h2, hm]
theorem mirror_parts (i n : Int) (h1 : 1 ≤ n) : ∃ r t, (0 ≤ r ∧ r < 2 * n) ∧ i = r + 2 * n * t :=
  ⟨i % (2 * n), i / (2 * n), ⟨Int.emod_nonneg _ (by omega), Int.emod_lt_of_pos _ (by omega)⟩, (Int.emod_add_mul_ediv i (2 * n)).symm⟩
theorem mirror_low {i n : Int} (h1 : 1 ≤ n) (h2 : n ≤ 128) : idxO (-1 - i) n 1 = idxO i n 1 := by
  obtain ⟨r, t, hr, e⟩ := mirror_parts i n h1
  have e' : -1 - i = (2 * n - 1 - r) + 2 * n * (-1 - t) := by rw [e]; grind
  rw [mirror_place h1 h2 hr e, mirror_place h1 h2 (by omega) e']
  congr 1
  split <;> split <;> omega
theorem mirror_high {i n : Int} (h1 : 1 ≤ n) (h2 : n ≤ 128) : idxO (2 * n - 1 - i) n 1 = idxO i n 1 := by
  obtain ⟨r, t, hr, e⟩ := mirror_parts i n h1
  have e' : 2 * n - 1 - i = (2 * n - 1 - r) + 2 * n * (-t) := by rw [e]; grind
  rw [mirror_place h1 h2 hr e, mirror_place h1 h2 (by omega) e']
  congr 1
  split <;> split <;> omega
theorem mirror_next {i n x y : Int} (h1 : 1 ≤ n) (h2 : n ≤ 128) (hx : idxO i n 1 = some x) (hy : idxO (i + 1) n 1 = some y) : y - x ≤ 1 ∧ x - y ≤ 1 := by
  obtain ⟨r, t, hr, e⟩ := mirror_parts i n h1
  rw [mirror_place h1 h2 hr e] at hx
  simp only [Option.some.injEq] at hx
  by_cases g : r + 1 < 2 * n
  · rw [mirror_place (r := r + 1) (t := t) h1 h2 (by omega) (by rw [e]; grind)] at hy
    simp only [Option.some.injEq] at hy
    split at hx <;> split at hy <;> omega
  · have g2 : r + 1 = 2 * n := by omega
    have e2 : i + 1 = 0 + 2 * n * (t + 1) := by rw [e]; grind
    rw [mirror_place (r := 0) (t := t + 1) h1 h2 (by omega) e2] at hy
    simp only [Option.some.injEq] at hy
    split at hx <;> split at hy <;> omega
theorem wrap_shift {i n : Int} : idxO (i - n) n 2 = idxO i n 2 := by
  unfold idxO
  simp
theorem clamp_next {i n x y : Int} (hx : idxO i n 0 = some x) (hy : idxO (i + 1) n 0 = some y) : y = x ∨ y = x + 1 := by
  obtain ⟨_, _, ⟨h1, h2⟩, _⟩ := idx_bd hx
  rw [idx_clamp h1 h2, Option.some.injEq] at hx hy
  omega
theorem idx_there {i n p : Int} (h1 : 1 ≤ n) (h2 : n ≤ 128) (hp : 0 ≤ p ∧ p ≤ 2) : ∃ k, idxO i n p = some k := by
  rcases (show p = 0 ∨ p = 1 ∨ p = 2 by omega) with rfl | rfl | rfl
  · exact ⟨_, idx_clamp h1 h2⟩
  · exact ⟨_, idx_mirror h1 h2⟩
  · exact ⟨_, idx_wrap h1 h2⟩
end Go.Proofs.Ytpmajophkhihlaa
