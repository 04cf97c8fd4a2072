/- The areas of the tiles, one after another; the tile that holds a point. No program is named. -/
import Derived.Test.YtpbapamoihkaoaaGLawPlain
namespace Go.Proofs.Ytpbapamoihkaoaa
set_option linter.unusedVariables false
set_option linter.unusedSimpArgs false

/-- the area of the first k tiles -/
def areaTo (w h t u k : Int) : Int := w * min (k / colN w h t u * u) h + min (k % colN w h t u * t) w * (min (k / colN w h t u * u + u) h - min (k / colN w h t u * u) h)
theorem areaTo_zero (w h t u : Int) (hw : 0 ≤ w) (hh : 0 ≤ h) : areaTo w h t u 0 = 0 := by
  unfold areaTo
  simp
  have : min 0 h = 0 := by omega
  have e2 : min 0 w = 0 := by omega
  rw [this, e2]; simp
theorem areaTo_bd {w h t u k : Int} (hf : fineB w h t u = true) (hk : 0 ≤ k) : 0 ≤ areaTo w h t u k ∧ areaTo w h t u k ≤ w * h := by
  have hb := fineB_t.1 hf
  have hc := (counts hf).1
  have d0 := Int.ediv_nonneg hk (show 0 ≤ colN w h t u by omega)
  have m0 := Int.emod_nonneg k (show colN w h t u ≠ 0 by omega)
  have p0 := Int.mul_nonneg d0 (show 0 ≤ u by omega)
  have p1 := Int.mul_nonneg m0 (show 0 ≤ t by omega)
  unfold areaTo
  generalize k / colN w h t u * u = Y at *
  generalize k % colN w h t u * t = X at *
  obtain ⟨A, eA⟩ : ∃ A, min Y h = A := ⟨_, rfl⟩
  obtain ⟨B, eB⟩ : ∃ B, min (Y + u) h = B := ⟨_, rfl⟩
  obtain ⟨D, eD⟩ : ∃ D, min X w = D := ⟨_, rfl⟩
  rw [eA, eB, eD]
  have q0 : 0 ≤ w * A := Int.mul_nonneg (by omega) (by omega)
  have q1 : 0 ≤ D * (B - A) := Int.mul_nonneg (by omega) (by omega)
  have q2 : D * (B - A) ≤ w * (B - A) := Int.mul_le_mul_of_nonneg_right (by omega) (by omega)
  have q3 : w * A + w * (B - A) = w * B := by rw [← Int.mul_add]; congr 1; omega
  have q4 : w * B ≤ w * h := Int.mul_le_mul_of_nonneg_left (by omega) (by omega)
  omega
theorem next_place {C k : Int} (hC : 1 ≤ C) (hk : 0 ≤ k) : (k % C + 1 < C ∧ (k + 1) / C = k / C ∧ (k + 1) % C = k % C + 1) ∨ (k % C + 1 = C ∧ (k + 1) / C = k / C + 1 ∧ (k + 1) % C = 0) := by
  have e := Int.emod_add_mul_ediv k C
  have m0 := Int.emod_nonneg k (show C ≠ 0 by omega)
  have m1 := Int.emod_lt_of_pos k (show 0 < C by omega)
  by_cases h : k % C + 1 < C
  · left
    exact ⟨h, (Int.ediv_emod_unique (by omega)).2 ⟨by omega, by omega, h⟩⟩
  · right
    refine ⟨by omega, (Int.ediv_emod_unique (by omega)).2 ⟨?_, by omega, by omega⟩⟩
    rw [Int.mul_add]; omega
theorem area_step {w h X t Y u D : Int} (hX : 0 ≤ X ∧ X < w) (hY : 0 ≤ Y ∧ Y < h) (ht : 1 ≤ t) (hu : 1 ≤ u) : w * min Y h + min X w * (min (Y + u) h - min Y h) + (min (X + t) w - X) * (min (Y + u) h - Y) = w * min Y h + min (X + t) w * (min (Y + u) h - min Y h) := by
  have e1 : min Y h = Y := by omega
  have e2 : min X w = X := by omega
  rw [e1, e2, Int.add_assoc, ← Int.add_mul]
  congr 2; omega
/-- all that is asked of a tile that is there -/
theorem part_tile {w h t u x y : Int} (hf : fineB w h t u = true) (hx : 0 ≤ x ∧ x < w) (hy : 0 ≤ y ∧ y < h) {k : Int} (hB : tileB w h t u k = true) :
    ∃ x0 y0 x1 y1 : Int, tileR w h t u k = ⟨x0, y0, x1, y1⟩ ∧ insideB x0 y0 x1 y1 0 0 w h = true ∧ (0 ≤ x0 ∧ x0 < x1 ∧ x1 ≤ 128) ∧ (0 ≤ y0 ∧ y0 < y1 ∧ y1 ≤ 128) ∧ x1 - x0 ≤ t ∧ y1 - y0 ≤ u ∧ areaTo w h t u (k + 1) = areaTo w h t u k + areaN x0 y0 x1 y1 ∧ (containsB x0 y0 x1 y1 x y = true ↔ k = ofN w h t u x y) := by
  have hb := fineB_t.1 hf
  have hp := place hB
  obtain ⟨⟨c1, c2, c3, c4⟩, r1, r2, r3, r4⟩ := counts hf
  have hk := (tileB_t.1 hB).1
  have ho : ofB w h t u x y = true := ofB_t.2 ⟨hf, by omega⟩
  have hbd := of_bd ho
  obtain ⟨X, eX⟩ : ∃ X, k % colN w h t u * t = X := ⟨_, rfl⟩
  obtain ⟨Y, eY⟩ : ∃ Y, k / colN w h t u * u = Y := ⟨_, rfl⟩
  refine ⟨X, Y, min (X + t) w, min (Y + u) h, by rw [tile_is hB, eX, eY], ?_, ?_, ?_, by omega, by omega, ?_, ?_⟩
  · rw [eX, eY] at hp
    exact insideB_t.2 ⟨validB_t.2 (by omega), validB_t.2 (by omega), .inr (by omega)⟩
  · rw [eX, eY] at hp; omega
  · rw [eX, eY] at hp; omega
  · rw [eX, eY] at hp
    have hv : validB X Y (min (X + t) w) (min (Y + u) h) = true := validB_t.2 (by omega)
    have e1 : areaN X Y (min (X + t) w) (min (Y + u) h) = (min (X + t) w - X) * (min (Y + u) h - Y) := by unfold areaN; rw [if_pos hv]
    rw [e1]
    have st := area_step (w := w) (h := h) (X := X) (t := t) (Y := Y) (u := u) (D := 0) (by omega) (by omega) (by omega) (by omega)
    rcases next_place (C := colN w h t u) (k := k) (by omega) hk with ⟨g1, g2, g3⟩ | ⟨g1, g2, g3⟩
    · unfold areaTo
      rw [g2, g3, eX, eY, st]
      have e2 : (k % colN w h t u + 1) * t = X + t := by rw [Int.add_mul, eX]; omega
      rw [e2]
    · unfold areaTo
      rw [g2, g3, eX, eY, st]
      have e2 : (k / colN w h t u + 1) * u = Y + u := by rw [Int.add_mul, eY]; omega
      have e3 : X + t = colN w h t u * t := by rw [← g1, Int.add_mul, eX]; omega
      have e4 : min (X + t) w = w := by omega
      rw [e2, e4, Int.zero_mul]
      have e5 : min 0 w = 0 := by omega
      have e6 : min Y h + (min (Y + u) h - min Y h) = min (Y + u) h := by omega
      rw [e5, Int.zero_mul, ← Int.mul_add, e6]
      omega
  · rw [eX, eY] at hp
    have hv : validB X Y (min (X + t) w) (min (Y + u) h) = true := validB_t.2 (by omega)
    rw [containsB_t, of_yes ho]
    have a1 : k % colN w h t u ≤ x / t ↔ X ≤ x := by rw [← eX, Int.le_ediv_iff_mul_le (by omega)]
    have a2 : x / t ≤ k % colN w h t u ↔ x < X + t := by
      have e : X + t = (k % colN w h t u + 1) * t := by rw [Int.add_mul, eX]; omega
      rw [e, ← Int.ediv_lt_iff_lt_mul (by omega)]; omega
    have b1 : k / colN w h t u ≤ y / u ↔ Y ≤ y := by rw [← eY, Int.le_ediv_iff_mul_le (by omega)]
    have b2 : y / u ≤ k / colN w h t u ↔ y < Y + u := by
      have e : Y + u = (k / colN w h t u + 1) * u := by rw [Int.add_mul, eY]; omega
      rw [e, ← Int.ediv_lt_iff_lt_mul (by omega)]; omega
    have eu := Int.ediv_emod_unique (a := k) (b := colN w h t u) (r := x / t) (q := y / u) (by omega)
    have cm : colN w h t u * (y / u) = y / u * colN w h t u := Int.mul_comm _ _
    rw [cm] at eu
    constructor
    · rintro ⟨_, h1, h2, h3, h4⟩
      have g1 := a1.2 h1
      have g2 := a2.2 (by omega)
      have g3 := b1.2 h3
      have g4 := b2.2 (by omega)
      have := (eu.1 ⟨by omega, by omega⟩).1
      omega
    · intro hh
      have := eu.2 ⟨by omega, by omega, by omega⟩
      exact ⟨hv, a1.1 (by omega), by have := a2.1 (by omega); omega, b1.1 (by omega), by have := b2.1 (by omega); omega⟩
theorem areaTo_end {w h t u : Int} (hf : fineB w h t u = true) : areaTo w h t u (colN w h t u * rowN w h t u) = w * h := by
  have hb := fineB_t.1 hf
  obtain ⟨⟨c1, c2, c3, c4⟩, r1, r2, r3, r4⟩ := counts hf
  unfold areaTo
  rw [Int.mul_emod_right, Int.mul_ediv_cancel_left _ (by omega)]
  have e1 : min (rowN w h t u * u) h = h := by omega
  have e2 : min (0 * t) w = 0 := by rw [Int.zero_mul]; omega
  rw [e1, e2, Int.zero_mul]; omega
theorem area_some {x0 y0 x1 y1 : Int} (hx : 0 ≤ x0 ∧ x0 < x1 ∧ x1 ≤ 128) (hy : 0 ≤ y0 ∧ y0 < y1 ∧ y1 ≤ 128) : 0 ≤ areaN x0 y0 x1 y1 ∧ areaN x0 y0 x1 y1 ≤ 16384 := by
  unfold areaN
  split
  · exact gprod_bd (by omega) (by omega) (by omega) (by omega)
  · omega
end Go.Proofs.Ytpbapamoihkaoaa
