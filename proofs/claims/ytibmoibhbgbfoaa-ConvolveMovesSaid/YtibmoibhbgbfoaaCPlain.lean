/- Convolutions as plain functions: the errors of kernels, the pixels of tiles. No program is named. -/
import Derived.Test.YtibmoibhbgbfoaaHPlain
import Derived.Test.YtibmoibhbgbfoaaPPixel
import Derived.Test.YtibmoibhbgbfoaaPCropPlain
namespace Go.Proofs.Ytibmoibhbgbfoaa
set_option linter.unusedVariables false
set_option linter.unusedSimpArgs false

def sideK (n : Int) : Bool := decide (1 ≤ n ∧ n ≤ 9)
theorem sideK_t {n : Int} : sideK n = true ↔ (1 ≤ n ∧ n ≤ 9) := by simp [sideK]
theorem sideK_f {n : Int} : sideK n = false ↔ ¬ (1 ≤ n ∧ n ≤ 9) := by rw [← sideK_t]; simp
def valueB (n : Int) : Bool := decide (1 ≤ n ∧ n ≤ 4294967296)
theorem valueB_t {n : Int} : valueB n = true ↔ (1 ≤ n ∧ n ≤ 4294967296) := by simp [valueB]
theorem valueB_f {n : Int} : valueB n = false ↔ ¬ (1 ≤ n ∧ n ≤ 4294967296) := by rw [← valueB_t]; simp
/-- the first error of a kernel -/
def checkC (mx kw kh : Int) (L : List Int) (s out : Int) : Int :=
  if sideK kw = false ∨ sideK kh = false ∨ ¬ (L.length : Int) = kw * kh then 9 else if L.all weightB = false ∨ shiftB s = false then 10
  else if valueB mx = false ∨ valueB out = false then 2 else if boundsB L 0 mx = false then 11 else 0
theorem check_cases (mx kw kh : Int) (L : List Int) (s out : Int) :
    (sideK kw = false ∧ checkC mx kw kh L s out = 9) ∨ (sideK kw = true ∧ sideK kh = false ∧ checkC mx kw kh L s out = 9) ∨
    (sideK kw = true ∧ sideK kh = true ∧ ¬ (L.length : Int) = kw * kh ∧ checkC mx kw kh L s out = 9) ∨
    ((sideK kw = true ∧ sideK kh = true ∧ (L.length : Int) = kw * kh) ∧ ((L.all weightB = false ∧ checkC mx kw kh L s out = 10) ∨ (L.all weightB = true ∧ shiftB s = false ∧ checkC mx kw kh L s out = 10) ∨
      (L.all weightB = true ∧ shiftB s = true ∧ ((valueB mx = false ∧ checkC mx kw kh L s out = 2) ∨ (valueB mx = true ∧ valueB out = false ∧ checkC mx kw kh L s out = 2) ∨
        (valueB mx = true ∧ valueB out = true ∧ ((boundsB L 0 mx = false ∧ checkC mx kw kh L s out = 11) ∨ (boundsB L 0 mx = true ∧ checkC mx kw kh L s out = 0))))))) := by
  unfold checkC
  cases sideK kw <;> cases sideK kh <;> by_cases h : (L.length : Int) = kw * kh <;> cases L.all weightB <;> cases shiftB s <;> cases valueB mx <;> cases valueB out <;> cases boundsB L 0 mx <;> simp [h]
theorem check_zero {mx kw kh : Int} {L : List Int} {s out : Int} (h : checkC mx kw kh L s out = 0) : (1 ≤ kw ∧ kw ≤ 9) ∧ (1 ≤ kh ∧ kh ≤ 9) ∧ (L.length : Int) = kw * kh ∧ L.all weightB = true ∧ shiftB s = true ∧ (1 ≤ mx ∧ mx ≤ 4294967296) ∧ (1 ≤ out ∧ out ≤ 4294967296) ∧ boundsB L 0 mx = true := by
  rcases check_cases mx kw kh L s out with ⟨_, c⟩ | ⟨_, _, c⟩ | ⟨_, _, _, c⟩ | ⟨⟨h1, h2, h3⟩, ⟨_, c⟩ | ⟨_, _, c⟩ | ⟨h4, h5, ⟨_, c⟩ | ⟨_, _, c⟩ | ⟨h6, h7, ⟨_, c⟩ | ⟨h8, c⟩⟩⟩⟩
  all_goals (first | (rw [c] at h; omega) | exact ⟨sideK_t.1 h1, sideK_t.1 h2, h3, h4, h5, valueB_t.1 h6, valueB_t.1 h7, h8⟩)
/-- one product of a convolution -/
def convT (W H : Int) (P : List Int) (q f kw kh : Int) (K : List Int) (x y : Int) (k : Nat) : Int := K.getD k 0 * pixN W H P q f (x + (k : Int) % kw - kw / 2) (y + (k : Int) / kw - kh / 2)
/-- the sum of the first n products -/
def convS (W H : Int) (P : List Int) (q f kw kh : Int) (K : List Int) (x y : Int) (n : Nat) : Int := ((List.range n).map (convT W H P q f kw kh K x y)).sum
def convP (W H : Int) (P : List Int) (q f kw kh : Int) (K : List Int) (s out x y : Int) : Int := clampN (shiftN (convS W H P q f kw kh K x y K.length) s) out
/-- the pixels of a tile -/
def convAt (W H : Int) (P : List Int) (q f kw kh : Int) (K : List Int) (s out x0 y0 cw : Int) (j : Nat) : Int := convP W H P q f kw kh K s out (x0 + (j : Int) % cw) (y0 + (j : Int) / cw)
def convL (W H : Int) (P : List Int) (q f kw kh : Int) (K : List Int) (s out x0 y0 x1 y1 : Int) : List Int := (List.range ((x1 - x0) * (y1 - y0)).toNat).map (convAt W H P q f kw kh K s out x0 y0 (x1 - x0))
/-- the first error of a tile -/
def tileC (W H M : Int) (P : List Int) (q f kw kh : Int) (K : List Int) (s out x0 y0 x1 y1 : Int) : Int :=
  if planeB W H M P = false ∨ edgeB q f M = false then 1 else if ¬ checkC M kw kh K s out = 0 then checkC M kw kh K s out
  else if fullB x0 y0 x1 y1 = false ∨ insideB x0 y0 x1 y1 0 0 W H = false then 8 else 0
theorem convS_step (W H : Int) (P : List Int) (q f kw kh : Int) (K : List Int) (x y : Int) (n : Nat) : convS W H P q f kw kh K x y (n + 1) = convS W H P q f kw kh K x y n + convT W H P q f kw kh K x y n := by
  unfold convS; rw [List.range_succ, List.map_append, List.sum_append]; simp
theorem convL_len {W H : Int} {P : List Int} {q f kw kh : Int} {K : List Int} {s out x0 y0 x1 y1 : Int} : (convL W H P q f kw kh K s out x0 y0 x1 y1).length = ((x1 - x0) * (y1 - y0)).toNat := by simp [convL]
theorem convL_at {W H : Int} {P : List Int} {q f kw kh : Int} {K : List Int} {s out x0 y0 x1 y1 : Int} {j : Nat} (h : j < ((x1 - x0) * (y1 - y0)).toNat) : (convL W H P q f kw kh K s out x0 y0 x1 y1).getD j 0 = convAt W H P q f kw kh K s out x0 y0 (x1 - x0) j := by
  unfold convL; rw [List.getD_eq_getElem?_getD, List.getElem?_map, List.getElem?_range h]; rfl
theorem tile_cases (W H M : Int) (P : List Int) (q f kw kh : Int) (K : List Int) (s out x0 y0 x1 y1 : Int) :
    (planeB W H M P = false ∧ tileC W H M P q f kw kh K s out x0 y0 x1 y1 = 1) ∨ (planeB W H M P = true ∧ edgeB q f M = false ∧ tileC W H M P q f kw kh K s out x0 y0 x1 y1 = 1) ∨
    (planeB W H M P = true ∧ edgeB q f M = true ∧ ((¬ checkC M kw kh K s out = 0 ∧ tileC W H M P q f kw kh K s out x0 y0 x1 y1 = checkC M kw kh K s out) ∨
      (checkC M kw kh K s out = 0 ∧ ((fullB x0 y0 x1 y1 = false ∧ tileC W H M P q f kw kh K s out x0 y0 x1 y1 = 8) ∨ (fullB x0 y0 x1 y1 = true ∧ insideB x0 y0 x1 y1 0 0 W H = false ∧ tileC W H M P q f kw kh K s out x0 y0 x1 y1 = 8) ∨
        (fullB x0 y0 x1 y1 = true ∧ insideB x0 y0 x1 y1 0 0 W H = true ∧ tileC W H M P q f kw kh K s out x0 y0 x1 y1 = 0))))) := by
  unfold tileC
  by_cases h : checkC M kw kh K s out = 0 <;> cases planeB W H M P <;> cases edgeB q f M <;> cases fullB x0 y0 x1 y1 <;> cases insideB x0 y0 x1 y1 0 0 W H <;> simp [h]
def tileO (W H M : Int) (P : List Int) (q f kw kh : Int) (K : List Int) (s out x0 y0 x1 y1 : Int) : Option (List Int) := if tileC W H M P q f kw kh K s out x0 y0 x1 y1 = 0 then some (convL W H P q f kw kh K s out x0 y0 x1 y1) else none
/-- a pixel of a valid plane, with a valid edge -/
theorem pix_bd {W H M : Int} {P : List Int} {q f : Int} (hv : planeB W H M P = true) (he : edgeB q f M = true) (x y : Int) : 0 ≤ pixN W H P q f x y ∧ pixN W H P q f x y ≤ M := by
  obtain ⟨hz, hlen, hp⟩ := planeB_t.1 hv
  obtain ⟨⟨w1, w2⟩, ⟨h1, h2⟩, hpr, m1, m2⟩ := sizeB_t.1 hz
  have hf := edgeB_t.1 he
  unfold pixN pixO
  rcases hx : idxO x W q with _ | i
  · simp; omega
  · rcases hy : idxO y H q with _ | k
    · simp; omega
    · obtain ⟨i0, i1, _, _⟩ := idx_bd hx
      obtain ⟨k0, k1, _, _⟩ := idx_bd hy
      obtain ⟨t0, t1⟩ := place_bd k0 k1 i0 i1
      exact hp (k * W + i).toNat (by omega)
theorem prod_p {v p : Int} (hv : -32767 ≤ v ∧ v ≤ 32767) (hp : 0 ≤ p ∧ p ≤ 4294967296) : -140733193388032 ≤ v * p ∧ v * p ≤ 140733193388032 := by
  have e : ∀ a : Int, 0 ≤ a → a ≤ 32767 → 0 ≤ a * p ∧ a * p ≤ 140733193388032 := fun a h0 h1 => by
    have h2 := Int.mul_nonneg h0 hp.1
    have h3 : a * p ≤ 32767 * 4294967296 := Int.mul_le_mul h1 hp.2 hp.1 (by omega)
    omega
  rcases Int.lt_or_le v 0 with g | g
  · have := e (-v) (by omega) (by omega)
    rw [Int.neg_mul] at this; omega
  · have := e v g (by omega)
    omega
end Go.Proofs.Ytibmoibhbgbfoaa
