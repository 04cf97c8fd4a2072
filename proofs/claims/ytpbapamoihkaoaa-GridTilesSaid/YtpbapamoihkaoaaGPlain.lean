/- Tiles of a plane in plain integers: how many there are, the rectangle of each, the tile of a point, and the tiles that a rectangle touches. No program is named. -/
import Derived.Test.YtpbapamoihkaoaaCeil
import Derived.Test.YtpbapamoihkaoaaRPlainB
namespace Go.Proofs.Ytpbapamoihkaoaa
set_option linter.unusedVariables false

/-- a number from 1 to a limit -/
def withinB (n l : Int) : Bool := decide (1 ≤ n ∧ n ≤ l)
theorem withinB_t {n l : Int} : withinB n l = true ↔ (1 ≤ n ∧ n ≤ l) := by simp [withinB]
theorem withinB_f {n l : Int} : withinB n l = false ↔ ¬ (1 ≤ n ∧ n ≤ l) := by rw [← withinB_t]; simp
/-- the four numbers are in range -/
def fineB (w h t u : Int) : Bool := decide (1 ≤ w ∧ w ≤ 128 ∧ 1 ≤ h ∧ h ≤ 128 ∧ 1 ≤ t ∧ t ≤ 64 ∧ 1 ≤ u ∧ u ≤ 64)
theorem fineB_t {w h t u : Int} : fineB w h t u = true ↔ (1 ≤ w ∧ w ≤ 128 ∧ 1 ≤ h ∧ h ≤ 128 ∧ 1 ≤ t ∧ t ≤ 64 ∧ 1 ≤ u ∧ u ≤ 64) := by simp [fineB]
theorem fineB_f {w h t u : Int} : fineB w h t u = false ↔ ¬ (1 ≤ w ∧ w ≤ 128 ∧ 1 ≤ h ∧ h ≤ 128 ∧ 1 ≤ t ∧ t ≤ 64 ∧ 1 ≤ u ∧ u ≤ 64) := by rw [← fineB_t]; simp
/-- tiles in a row -/
def colN (w h t u : Int) : Int := if fineB w h t u = true then ceilN w t else 0
/-- rows of tiles -/
def rowN (w h t u : Int) : Int := if fineB w h t u = true then ceilN h u else 0
/-- there is such a tile -/
def tileB (w h t u i : Int) : Bool := decide (0 ≤ i ∧ i < colN w h t u * rowN w h t u)
theorem tileB_t {w h t u i : Int} : tileB w h t u i = true ↔ (0 ≤ i ∧ i < colN w h t u * rowN w h t u) := by simp [tileB]
theorem tileB_f {w h t u i : Int} : tileB w h t u i = false ↔ ¬ (0 ≤ i ∧ i < colN w h t u * rowN w h t u) := by rw [← tileB_t]; simp
/-- its rectangle -/
def tileR (w h t u i : Int) : Rc := if tileB w h t u i = true then ⟨i % colN w h t u * t, i / colN w h t u * u, min (i % colN w h t u * t + t) w, min (i / colN w h t u * u + u) h⟩ else ⟨0, 0, 0, 0⟩
/-- there is a tile of a point -/
def ofB (w h t u x y : Int) : Bool := decide (fineB w h t u = true ∧ 0 ≤ x ∧ x < w ∧ 0 ≤ y ∧ y < h)
theorem ofB_t {w h t u x y : Int} : ofB w h t u x y = true ↔ (fineB w h t u = true ∧ 0 ≤ x ∧ x < w ∧ 0 ≤ y ∧ y < h) := by simp [ofB]
/-- its number -/
def ofN (w h t u x y : Int) : Int := if ofB w h t u x y = true then y / u * colN w h t u + x / t else 0

theorem cell_mul {x y : Int} (h0 : 1 ≤ x) (h1 : 1 ≤ y) : 1 ≤ ceilN x y ∧ ceilN x y ≤ x ∧ x ≤ ceilN x y * y ∧ (ceilN x y - 1) * y < x := by
  have h := ceil_mul (x := x) (y := y) (by omega) h1
  have e : (ceilN x y - 1) * y = ceilN x y * y - y := by rw [Int.sub_mul]; omega
  have p : 1 ≤ ceilN x y := by
    by_cases g : ceilN x y = 0
    · rw [g] at h; omega
    · omega
  refine ⟨p, ?_, by omega, by omega⟩
  have q : (ceilN x y - 1) * 1 ≤ (ceilN x y - 1) * y := Int.mul_le_mul_of_nonneg_left h1 (by omega)
  omega
/-- all that is known of the two numbers, where they are not 0 -/
theorem counts {w h t u : Int} (hf : fineB w h t u = true) : (1 ≤ colN w h t u ∧ colN w h t u ≤ 128 ∧ w ≤ colN w h t u * t ∧ (colN w h t u - 1) * t < w) ∧ (1 ≤ rowN w h t u ∧ rowN w h t u ≤ 128 ∧ h ≤ rowN w h t u * u ∧ (rowN w h t u - 1) * u < h) := by
  have hb := fineB_t.1 hf
  have a := cell_mul (x := w) (y := t) (by omega) (by omega)
  have b := cell_mul (x := h) (y := u) (by omega) (by omega)
  unfold colN rowN
  rw [if_pos hf, if_pos hf]
  omega
theorem counts_no {w h t u : Int} (hf : fineB w h t u = false) : colN w h t u = 0 ∧ rowN w h t u = 0 := by
  unfold colN rowN
  rw [hf]; simp
theorem col_bd (w h t u : Int) : 0 ≤ colN w h t u ∧ colN w h t u ≤ 128 := by
  rcases hf : fineB w h t u with _ | _
  · rw [(counts_no hf).1]; omega
  · have := (counts hf).1; omega
theorem row_bd (w h t u : Int) : 0 ≤ rowN w h t u ∧ rowN w h t u ≤ 128 := by
  rcases hf : fineB w h t u with _ | _
  · rw [(counts_no hf).2]; omega
  · have := (counts hf).2; omega
theorem gprod_bd {a b : Int} (a0 : 0 ≤ a) (a1 : a ≤ 128) (b0 : 0 ≤ b) (b1 : b ≤ 128) : 0 ≤ a * b ∧ a * b ≤ 16384 := by
  have h1 := Int.mul_nonneg a0 b0
  have h2 : a * b ≤ 128 * 128 := Int.mul_le_mul a1 b1 b0 (by omega)
  omega
theorem cr_bd (w h t u : Int) : 0 ≤ colN w h t u * rowN w h t u ∧ colN w h t u * rowN w h t u ≤ 16384 := by
  have a := col_bd w h t u
  have b := row_bd w h t u
  exact gprod_bd a.1 a.2 b.1 b.2
theorem tile_fine {w h t u i : Int} (h0 : tileB w h t u i = true) : fineB w h t u = true := by
  rcases hf : fineB w h t u with _ | _
  · have := tileB_t.1 h0
    rw [(counts_no hf).1] at this; omega
  · rfl
/-- the place of a tile that is there: its column, its row, and where its rectangle starts -/
theorem place {w h t u i : Int} (h0 : tileB w h t u i = true) :
    (0 ≤ i % colN w h t u ∧ i % colN w h t u < colN w h t u ∧ 0 ≤ i / colN w h t u ∧ i / colN w h t u < rowN w h t u) ∧
    (0 ≤ i % colN w h t u * t ∧ i % colN w h t u * t < w ∧ 0 ≤ i / colN w h t u * u ∧ i / colN w h t u * u < h) := by
  have hf := tile_fine h0
  have hb := fineB_t.1 hf
  obtain ⟨⟨c0, c1, c2, c3⟩, r0, r1, r2, r3⟩ := counts hf
  have hi := tileB_t.1 h0
  have m0 := Int.emod_nonneg i (show colN w h t u ≠ 0 by omega)
  have m1 := Int.emod_lt_of_pos i (show 0 < colN w h t u by omega)
  have d0 := Int.ediv_nonneg hi.1 (show 0 ≤ colN w h t u by omega)
  have d1 : i / colN w h t u < rowN w h t u := Int.ediv_lt_of_lt_mul (by omega) (by rw [Int.mul_comm]; exact hi.2)
  refine ⟨⟨m0, m1, d0, d1⟩, Int.mul_nonneg m0 (by omega), ?_, Int.mul_nonneg d0 (by omega), ?_⟩
  · have : i % colN w h t u * t ≤ (colN w h t u - 1) * t := Int.mul_le_mul_of_nonneg_right (by omega) (by omega)
    omega
  · have : i / colN w h t u * u ≤ (rowN w h t u - 1) * u := Int.mul_le_mul_of_nonneg_right (by omega) (by omega)
    omega
theorem interR_yes {a b c d e f g h : Int} (hv : validB a b c d = true) (hu : validB e f g h = true) (h1 : max a e < min c g) (h2 : max b f < min d h) : interR a b c d e f g h = ⟨max a e, max b f, min c g, min d h⟩ := by
  unfold interR; rw [if_pos ⟨hv, hu, h1, h2⟩]
/-- what the program hands to Intersect gives the tile's rectangle -/
theorem tile_inter {w h t u i : Int} (h0 : tileB w h t u i = true) :
    interR (i % colN w h t u * t) (i / colN w h t u * u) (i % colN w h t u * t + t) (i / colN w h t u * u + u) 0 0 w h = tileR w h t u i := by
  have hb := fineB_t.1 (tile_fine h0)
  obtain ⟨_, x0, x1, y0, y1⟩ := place h0
  unfold tileR
  rw [if_pos h0]
  generalize i % colN w h t u * t = x at *
  generalize i / colN w h t u * u = y at *
  rw [interR_yes (validB_t.2 (by omega)) (validB_t.2 (by omega)) (by omega) (by omega)]
  rw [Rc.mk.injEq]; omega
theorem tile_is {w h t u i : Int} (h0 : tileB w h t u i = true) : tileR w h t u i = ⟨i % colN w h t u * t, i / colN w h t u * u, min (i % colN w h t u * t + t) w, min (i / colN w h t u * u + u) h⟩ := by
  unfold tileR; rw [if_pos h0]
theorem tile_no {w h t u i : Int} (h0 : tileB w h t u i = false) : tileR w h t u i = ⟨0, 0, 0, 0⟩ := by
  unfold tileR; rw [h0]; simp
theorem of_bd {w h t u x y : Int} (h0 : ofB w h t u x y = true) : (0 ≤ y / u ∧ y / u < rowN w h t u ∧ 0 ≤ x / t ∧ x / t < colN w h t u) ∧ 0 ≤ y / u * colN w h t u ∧ y / u * colN w h t u ≤ 16384 ∧ y / u * colN w h t u + x / t < colN w h t u * rowN w h t u := by
  obtain ⟨hf, hx0, hx1, hy0, hy1⟩ := ofB_t.1 h0
  have hb := fineB_t.1 hf
  obtain ⟨⟨c0, c1, c2, c3⟩, r0, r1, r2, r3⟩ := counts hf
  have a0 := Int.ediv_nonneg hy0 (show 0 ≤ u by omega)
  have a1 : y / u < rowN w h t u := Int.ediv_lt_of_lt_mul (by omega) (by omega)
  have b0 := Int.ediv_nonneg hx0 (show 0 ≤ t by omega)
  have b1 : x / t < colN w h t u := Int.ediv_lt_of_lt_mul (by omega) (by omega)
  have p := gprod_bd a0 (show y / u ≤ 128 by omega) (show 0 ≤ colN w h t u by omega) c1
  have e : (y / u + 1) * colN w h t u = y / u * colN w h t u + colN w h t u := by rw [Int.add_mul]; omega
  have q : (y / u + 1) * colN w h t u ≤ rowN w h t u * colN w h t u := Int.mul_le_mul_of_nonneg_right (by omega) (by omega)
  have c : rowN w h t u * colN w h t u = colN w h t u * rowN w h t u := Int.mul_comm _ _
  refine ⟨⟨a0, a1, b0, b1⟩, p.1, p.2, by omega⟩
theorem of_yes {w h t u x y : Int} (h0 : ofB w h t u x y = true) : ofN w h t u x y = y / u * colN w h t u + x / t := by unfold ofN; rw [if_pos h0]
theorem of_no {w h t u x y : Int} (h0 : ofB w h t u x y = false) : ofN w h t u x y = 0 := by unfold ofN; rw [h0]; simp
theorem of_rng (w h t u x y : Int) : 0 ≤ ofN w h t u x y ∧ ofN w h t u x y ≤ 16384 := by
  rcases hf : ofB w h t u x y with _ | _
  · rw [of_no hf]; omega
  · rw [of_yes hf]; have := of_bd hf; have := cr_bd w h t u; omega
end Go.Proofs.Ytpbapamoihkaoaa
