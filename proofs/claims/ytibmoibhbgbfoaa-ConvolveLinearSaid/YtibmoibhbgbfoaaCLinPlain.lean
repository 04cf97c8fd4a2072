/- Linear convolutions: sums of planes, and the kernel 1. No program is named. -/
import Derived.Test.YtibmoibhbgbfoaaCLawPlain
namespace Go.Proofs.Ytibmoibhbgbfoaa
set_option linter.unusedVariables false
set_option linter.unusedSimpArgs false

theorem lin_plane {c h : Int} {P : List Int} {N : Nat} (hc : 1 ≤ c ∧ c ≤ 5) (hh : 1 ≤ h ∧ h ≤ 4) (hN : c * h = N) (hl : P.length = N) (hb : ∀ j : Nat, 0 ≤ P.getD j 0 ∧ P.getD j 0 ≤ 1000) : planeB c h 1000 P = true := by
  have j1 : c * h ≤ 5 * 4 := Int.mul_le_mul hc.2 hh.2 (by omega) (by omega)
  exact planeB_all (sizeB_t.2 ⟨by omega, by omega, by omega, by omega⟩) (by rw [hl]; exact hN.symm) (fun j _ => hb j)
theorem getD_bound {P : List Int} {lo hi : Int} (h : ∀ v ∈ P, lo ≤ v ∧ v < hi) (h0 : lo ≤ 0 ∧ 0 < hi) (j : Nat) : lo ≤ P.getD j 0 ∧ P.getD j 0 < hi := by
  rw [List.getD_eq_getElem?_getD]
  cases e : P[j]? with
  | none => simpa using h0
  | some x => exact h x (List.mem_of_getElem? e)
/-- the pixels of a convolution with small weights that are not negative -/
theorem lin_at {c h : Int} {P : List Int} {q : Int} {K : List Int} (hv : planeB c h 1000 P = true) (hq : 0 ≤ q ∧ q ≤ 2) (hK : ∀ v ∈ K, 0 ≤ v ∧ v ≤ 4) (hl : K.length = 9) (x y : Int) : convP c h P q 0 3 3 K 0 1000000 x y = convS c h P q 0 3 3 K x y 9 := by
  have he : edgeB q 0 1000 = true := edgeB_t.2 (by omega)
  have hb := convS_pos (c := 4) (B := 1000) (kw := 3) (kh := 3) hv he hK x y (fun x y => (pix_bd hv he x y).2) (by omega) 9 (by omega)
  unfold convP
  rw [hl, shift_zero (accB_t.2 (by omega)), clamp_id (by omega) (by omega)]
theorem lin_add {c h : Int} {P Q R : List Int} {q : Int} {K : List Int} (hP : planeB c h 1000 P = true) (hQ : planeB c h 1000 Q = true) (hR : planeB c h 1000 R = true) (hq : 0 ≤ q ∧ q ≤ 2) (hK : ∀ v ∈ K, 0 ≤ v ∧ v ≤ 4) (hl : K.length = 9) (hs : ∀ j : Nat, R.getD j 0 = P.getD j 0 + Q.getD j 0) {j : Nat} (hj : (j : Int) < c * h) :
    (convL c h P q 0 3 3 K 0 1000000 0 0 c h).getD j 0 + (convL c h Q q 0 3 3 K 0 1000000 0 0 c h).getD j 0 = (convL c h R q 0 3 3 K 0 1000000 0 0 c h).getD j 0 ∧ (0 ≤ (convL c h R q 0 3 3 K 0 1000000 0 0 c h).getD j 0 ∧ (convL c h R q 0 3 3 K 0 1000000 0 0 c h).getD j 0 ≤ 1000000) := by
  have e : ∀ P : List Int, planeB c h 1000 P = true → (convL c h P q 0 3 3 K 0 1000000 0 0 c h).getD j 0 = convS c h P q 0 3 3 K (0 + (j : Int) % (c - 0)) (0 + (j : Int) / (c - 0)) 9 := fun P hP => by
    rw [convL_at (by rw [Int.sub_zero, Int.sub_zero]; omega)]
    exact lin_at hP hq hK hl _ _
  have hb : 0 ≤ (convL c h R q 0 3 3 K 0 1000000 0 0 c h).getD j 0 ∧ (convL c h R q 0 3 3 K 0 1000000 0 0 c h).getD j 0 ≤ 1000000 := by
    rw [convL_at (by rw [Int.sub_zero, Int.sub_zero]; omega)]
    exact clamp_bd (by omega)
  refine ⟨?_, hb⟩
  rw [e P hP, e Q hQ, e R hR, convS_add hs]
/-- the kernel 1 -/
theorem lin_one {c h : Int} {P : List Int} {q : Int} (hP : planeB c h 1000 P = true) (hq : 0 ≤ q ∧ q ≤ 2) : convL c h P q 0 1 1 [1] 0 1000 0 0 c h = P := by
  obtain ⟨hz, hl, hp⟩ := planeB_t.1 hP
  obtain ⟨w1, h1, _, _⟩ := sizeB_t.1 hz
  refine list_eq (by rw [convL_len, Int.sub_zero, Int.sub_zero]; omega) (fun j hj => ?_)
  have hj' := hj
  rw [convL_len, Int.sub_zero, Int.sub_zero] at hj'
  rw [convL_len] at hj
  obtain ⟨p0, p1, p2, p3, p4⟩ := place_in (W := c) (H := h) (j := j) w1.1 (by omega)
  rw [convL_at hj]
  unfold convAt convP
  have e0 : convS c h P q 0 1 1 [1] (0 + (j : Int) % (c - 0)) (0 + (j : Int) / (c - 0)) ([1] : List Int).length = P.getD j 0 := by
    show convS c h P q 0 1 1 [1] _ _ 1 = _
    rw [convS_step]
    have : convS c h P q 0 1 1 [1] (0 + (j : Int) % (c - 0)) (0 + (j : Int) / (c - 0)) 0 = 0 := by simp [convS]
    rw [this]
    unfold convT
    have a1 : (0 + (j : Int) % (c - 0) + ((0 : Nat) : Int) % 1 - 1 / 2) = (j : Int) % c := by rw [Int.sub_zero]; simp
    have a2 : (0 + (j : Int) / (c - 0) + ((0 : Nat) : Int) / 1 - 1 / 2) = (j : Int) / c := by rw [Int.sub_zero]; simp
    rw [a1, a2]
    unfold pixN pixO
    rw [idx_self w1.1 w1.2 p0 p1 (by omega), idx_self h1.1 h1.2 p2 p3 (by omega)]
    simp only [p4]
    simp
  rw [e0]
  have := hp j (by omega)
  rw [shift_zero (accB_t.2 (by omega)), clamp_id (by omega) (by omega)]
end Go.Proofs.Ytibmoibhbgbfoaa
