/- Blits as plain lists: what is blitted, and when. -/
import Derived.Test.YtpmajophkhihlaaPCropPlain
namespace Go.Proofs.Ytpmajophkhihlaa
set_option linter.unusedVariables false

/-- the pixel of place j when the first m pixels of the second plane have been laid -/
def blitAt (W : Int) (L : List Int) (W2 : Int) (K : List Int) (x y : Int) (m : Nat) (j : Nat) : Int :=
  if 0 ≤ (j : Int) % W - x ∧ (j : Int) % W - x < W2 ∧ 0 ≤ (j : Int) / W - y ∧ ((j : Int) / W - y) * W2 + ((j : Int) % W - x) < m
  then K.getD (((j : Int) / W - y) * W2 + ((j : Int) % W - x)).toNat 0 else L.getD j 0
/-- a list that the first m pixels have been laid into -/
def Laid (W : Int) (L : List Int) (W2 : Int) (K : List Int) (x y : Int) (m : Nat) (R : List Int) : Prop := R.length = L.length ∧ ∀ j, j < L.length → R.getD j 0 = blitAt W L W2 K x y m j
def blitL (W : Int) (L : List Int) (W2 : Int) (K : List Int) (x y : Int) : List Int := (List.range L.length).map (blitAt W L W2 K x y K.length)
/-- no pixel is greater than a Max -/
def Under (M : Int) (K : List Int) (n : Nat) : Prop := ∀ k, k < n → K.getD k 0 ≤ M
instance (M : Int) (K : List Int) (n : Nat) : Decidable (Under M K n) := by unfold Under; infer_instance
def placeOk (W H : Int) (W2 H2 : Int) (x y : Int) : Prop := 0 ≤ x ∧ 0 ≤ y ∧ x ≤ W - W2 ∧ y ≤ H - H2
instance (W H W2 H2 x y : Int) : Decidable (placeOk W H W2 H2 x y) := by unfold placeOk; infer_instance
def blitO (W H M : Int) (L : List Int) (W2 H2 M2 : Int) (K : List Int) (x y : Int) : Option (List Int) :=
  if (planeB W H M L = true ∧ planeB W2 H2 M2 K = true ∧ placeOk W H W2 H2 x y) ∧ Under M K K.length then some (blitL W L W2 K x y) else none
theorem laid_zero {W : Int} {L : List Int} {W2 : Int} {K : List Int} {x y : Int} (hw : 0 < W2) : Laid W L W2 K x y 0 L := by
  refine ⟨rfl, fun j hj => ?_⟩
  unfold blitAt
  rw [if_neg]
  rintro ⟨h1, h2, h3, h4⟩
  have := Int.mul_nonneg h3 (show 0 ≤ W2 by omega)
  omega
theorem laid_done {W : Int} {L : List Int} {W2 : Int} {K : List Int} {x y : Int} {R : List Int} (h : Laid W L W2 K x y K.length R) : R = blitL W L W2 K x y := by
  obtain ⟨hl, h⟩ := h
  apply List.ext_getElem (by simp [blitL, hl])
  intro j h1 h2
  have := h j (by omega)
  simpa [blitL, List.getD_eq_getElem?_getD, h1] using this
theorem cell_uniq {W2 u v u' v' : Int} (h1 : 0 ≤ u) (h2 : u < W2) (h3 : 0 ≤ u') (h4 : u' < W2) (h : v' * W2 + u' = v * W2 + u) : v' = v ∧ u' = u := by
  have e1 : (v' * W2 + u') / W2 = v' := by rw [Int.add_comm, Int.add_mul_ediv_right _ _ (by omega), Int.ediv_eq_zero_of_lt h3 h4]; omega
  have e2 : (v * W2 + u) / W2 = v := by rw [Int.add_comm, Int.add_mul_ediv_right _ _ (by omega), Int.ediv_eq_zero_of_lt h1 h2]; omega
  have e3 : v' = v := by rw [← e1, h, e2]
  subst e3
  omega
/-- one more pixel is laid -/
theorem laid_step {W : Int} {L : List Int} {W2 : Int} {K : List Int} {x y : Int} {v u m D : Nat} {R : List Int} (h : Laid W L W2 K x y m R) (hu : (u : Int) < W2) (hx : 0 ≤ x) (hy : 0 ≤ y) (hxw : x + W2 ≤ W)
    (hm : (m : Int) = v * W2 + u) (hD : (D : Int) = (v + y) * W + (u + x)) (hDl : D < L.length) : Laid W L W2 K x y (m + 1) (R.set D (K.getD m 0)) := by
  obtain ⟨hl, h⟩ := h
  have d1 : (D : Int) / W = v + y := by rw [hD, Int.add_comm, Int.add_mul_ediv_right _ _ (by omega), Int.ediv_eq_zero_of_lt (by omega) (by omega)]; omega
  have d2 : (D : Int) % W = u + x := by rw [hD, Int.add_comm, Int.add_mul_emod_self_right]; exact Int.emod_eq_of_lt (by omega) (by omega)
  refine ⟨by rw [List.length_set]; exact hl, fun j hj => ?_⟩
  by_cases e : j = D
  · subst e
    have : (R.set j (K.getD m 0)).getD j 0 = K.getD m 0 := by simp [List.getD_eq_getElem?_getD, show j < R.length by omega]
    rw [this]
    unfold blitAt
    rw [d1, d2, show (v : Int) + y - y = v by omega, show (u : Int) + x - x = u by omega, ← hm, if_pos (by omega)]
    simp
  · have e1 : (R.set D (K.getD m 0)).getD j 0 = R.getD j 0 := by simp [List.getD_eq_getElem?_getD, Ne.symm e]
    rw [e1, h j hj]
    unfold blitAt
    by_cases c : 0 ≤ (j : Int) % W - x ∧ (j : Int) % W - x < W2 ∧ 0 ≤ (j : Int) / W - y ∧ ((j : Int) / W - y) * W2 + ((j : Int) % W - x) < m
    · rw [if_pos c, if_pos ⟨c.1, c.2.1, c.2.2.1, by have := c.2.2.2; omega⟩]
    · rw [if_neg c, if_neg]
      rintro ⟨c1, c2, c3, c4⟩
      have c5 : ((j : Int) / W - y) * W2 + ((j : Int) % W - x) = v * W2 + u := by omega
      obtain ⟨q1, q2⟩ := cell_uniq (by omega) hu c1 c2 c5
      have hj2 : (j : Int) = D := by
        have := Int.emod_add_mul_ediv (j : Int) W
        have a1 : (j : Int) / W = v + y := by omega
        have a2 : (j : Int) % W = u + x := by omega
        rw [a1, a2, Int.mul_comm] at this
        omega
      exact e (by omega)
theorem under_step {M : Int} {K : List Int} {k : Nat} (h : Under M K k) (h1 : K.getD k 0 ≤ M) : Under M K (k + 1) := by
  intro j hj
  by_cases e : j = k
  · subst e; exact h1
  · exact h j (by omega)
theorem blit_none {W H M : Int} {L : List Int} {W2 H2 M2 : Int} {K : List Int} {x y : Int} (h : planeB W H M L = false ∨ planeB W2 H2 M2 K = false ∨ ¬ placeOk W H W2 H2 x y ∨ ∃ k, k < K.length ∧ M < K.getD k 0) : blitO W H M L W2 H2 M2 K x y = none := by
  unfold blitO
  rw [if_neg]
  rintro ⟨⟨h1, h2, h3⟩, h4⟩
  rcases h with h | h | h | ⟨k, hk, h⟩
  · rw [h] at h1; cases h1
  · rw [h] at h2; cases h2
  · exact h h3
  · have := h4 k hk; omega
theorem blit_some {W H M : Int} {L : List Int} {W2 H2 M2 : Int} {K : List Int} {x y : Int} (h1 : planeB W H M L = true) (h2 : planeB W2 H2 M2 K = true) (h3 : placeOk W H W2 H2 x y) (h4 : Under M K K.length) : blitO W H M L W2 H2 M2 K x y = some (blitL W L W2 K x y) := if_pos ⟨⟨h1, h2, h3⟩, h4⟩
end Go.Proofs.Ytpmajophkhihlaa
