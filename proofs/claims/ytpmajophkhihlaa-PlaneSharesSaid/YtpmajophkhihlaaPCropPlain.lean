/- Crops as plain lists: what is cropped, and when. -/
import Derived.Test.YtpmajophkhihlaaPSame
import Derived.Test.YtpmajophkhihlaaRPlain
namespace Go.Proofs.Ytpmajophkhihlaa
set_option linter.unusedVariables false

/-- the pixel of place j of a crop -/
def cropAt (W : Int) (L : List Int) (x0 y0 cw : Int) (j : Nat) : Int := L.getD ((y0 + (j : Int) / cw) * W + (x0 + (j : Int) % cw)).toNat 0
def cropL (W : Int) (L : List Int) (x0 y0 x1 y1 : Int) : List Int := (List.range ((x1 - x0) * (y1 - y0)).toNat).map (cropAt W L x0 y0 (x1 - x0))
def cropOk (W H M : Int) (L : List Int) (x0 y0 x1 y1 : Int) : Prop := planeB W H M L = true ∧ emptyB x0 y0 x1 y1 = false ∧ insideB x0 y0 x1 y1 0 0 W H = true
instance (W H M : Int) (L : List Int) (x0 y0 x1 y1 : Int) : Decidable (cropOk W H M L x0 y0 x1 y1) := by unfold cropOk; infer_instance
def cropO (W H M : Int) (L : List Int) (x0 y0 x1 y1 : Int) : Option (List Int) := if cropOk W H M L x0 y0 x1 y1 then some (cropL W L x0 y0 x1 y1) else none
theorem cropL_len {W : Int} {L : List Int} {x0 y0 x1 y1 : Int} : (cropL W L x0 y0 x1 y1).length = ((x1 - x0) * (y1 - y0)).toNat := by simp [cropL]
theorem cropL_at {W : Int} {L : List Int} {x0 y0 x1 y1 : Int} {j : Nat} (h : j < ((x1 - x0) * (y1 - y0)).toNat) : (cropL W L x0 y0 x1 y1).getD j 0 = cropAt W L x0 y0 (x1 - x0) j := by
  simp [cropL, List.getD_eq_getElem?_getD, h]
theorem cropAt_place {W : Int} {L : List Int} {x0 y0 cw : Int} {j y x : Nat} (hc : (x : Int) < cw) (hj : (j : Int) = y * cw + x) : cropAt W L x0 y0 cw j = L.getD ((y0 + y) * W + (x0 + x)).toNat 0 := by
  unfold cropAt
  have e1 : (j : Int) / cw = y := by
    rw [hj, Int.add_comm, Int.add_mul_ediv_right _ _ (by omega), Int.ediv_eq_zero_of_lt (by omega) hc]; omega
  have e2 : (j : Int) % cw = x := by
    rw [hj, Int.add_comm, Int.add_mul_emod_self_right]; exact Int.emod_eq_of_lt (by omega) hc
  rw [e1, e2]
/-- where a crop is possible -/
theorem cropOk_bd {W H M : Int} {L : List Int} {x0 y0 x1 y1 : Int} (h : cropOk W H M L x0 y0 x1 y1) : (0 ≤ x0 ∧ x0 < x1 ∧ x1 ≤ W) ∧ (0 ≤ y0 ∧ y0 < y1 ∧ y1 ≤ H) := by
  obtain ⟨h1, h2, h3⟩ := h
  obtain ⟨v1, v2, h4⟩ := insideB_t.1 h3
  rw [validB_t] at v1
  rw [emptyB_f] at h2
  omega
theorem mul_mono2 {a b c d : Int} (h1 : 0 ≤ a) (h2 : a ≤ c) (h3 : 0 ≤ b) (h4 : b ≤ d) : a * b ≤ c * d := Int.mul_le_mul h2 h4 h3 (by omega)
theorem cropOk_size {W H M : Int} {L : List Int} {x0 y0 x1 y1 : Int} (h : cropOk W H M L x0 y0 x1 y1) : sizeB (x1 - x0) (y1 - y0) M = true := by
  obtain ⟨⟨a0, a1, a2⟩, b0, b1, b2⟩ := cropOk_bd h
  obtain ⟨hz, _, _⟩ := planeB_t.1 h.1
  obtain ⟨⟨w1, w2⟩, ⟨h1, h2⟩, hp, m1, m2⟩ := sizeB_t.1 hz
  have := mul_mono2 (a := x1 - x0) (b := y1 - y0) (c := W) (d := H) (by omega) (by omega) (by omega) (by omega)
  exact sizeB_t.2 ⟨⟨by omega, by omega⟩, ⟨by omega, by omega⟩, by omega, m1, m2⟩
/-- a list that is filled from the front -/
theorem agree_set {K C : List Int} {m : Nat} {v : Int} (h : Agree K C m) (hm : m < K.length) (hv : v = C.getD m 0) : Agree (K.set m v) C (m + 1) := by
  intro j hj
  by_cases e : j = m
  · subst e
    simp [List.getD_eq_getElem?_getD, hm, hv]
  · rw [← h j (by omega)]
    simp [List.getD_eq_getElem?_getD, Ne.symm e]
end Go.Proofs.Ytpmajophkhihlaa
