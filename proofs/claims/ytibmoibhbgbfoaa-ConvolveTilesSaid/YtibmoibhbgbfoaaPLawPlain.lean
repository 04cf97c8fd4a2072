/- What crops and blits say of one another, as plain lists. -/
import Derived.Test.YtibmoibhbgbfoaaPRCrop
import Derived.Test.YtibmoibhbgbfoaaPCropPlain
namespace Go.Proofs.Ytibmoibhbgbfoaa
set_option linter.unusedVariables false

theorem inside_plane {W H x0 y0 x1 y1 : Int} (hx : 0 ≤ x0 ∧ x0 < x1 ∧ x1 ≤ W) (hy : 0 ≤ y0 ∧ y0 < y1 ∧ y1 ≤ H) (hW : W ≤ 128) (hH : H ≤ 128) : emptyB x0 y0 x1 y1 = false ∧ insideB x0 y0 x1 y1 0 0 W H = true := by
  refine ⟨by rw [emptyB_f]; omega, insideB_t.2 ⟨by rw [validB_t]; omega, by rw [validB_t]; omega, by omega⟩⟩
theorem crop_ok {W H M : Int} {L : List Int} {x0 y0 x1 y1 : Int} (hv : planeB W H M L = true) (hx : 0 ≤ x0 ∧ x0 < x1 ∧ x1 ≤ W) (hy : 0 ≤ y0 ∧ y0 < y1 ∧ y1 ≤ H) : cropOk W H M L x0 y0 x1 y1 := by
  obtain ⟨⟨w1, w2⟩, ⟨h1, h2⟩, _⟩ := sizeB_t.1 (planeB_t.1 hv).1
  obtain ⟨e, i⟩ := inside_plane hx hy w2 h2
  exact ⟨hv, e, i⟩
theorem crop_some {W H M : Int} {L : List Int} {x0 y0 x1 y1 : Int} (h : cropOk W H M L x0 y0 x1 y1) : cropO W H M L x0 y0 x1 y1 = some (cropL W L x0 y0 x1 y1) := if_pos h
/-- a place within a plane, by rows -/
theorem place_in {W H : Int} {j : Nat} (hW : 1 ≤ W) (hj : (j : Int) < W * H) : 0 ≤ (j : Int) % W ∧ (j : Int) % W < W ∧ 0 ≤ (j : Int) / W ∧ (j : Int) / W < H ∧ (j : Int) / W * W + (j : Int) % W = j := by
  have h0 := Int.emod_nonneg (j : Int) (show W ≠ 0 by omega)
  have h1 := Int.emod_lt_of_pos (j : Int) (show 0 < W by omega)
  have h2 : 0 ≤ (j : Int) / W := Int.ediv_nonneg (by omega) (by omega)
  have h3 : (j : Int) / W < H := Int.ediv_lt_of_lt_mul (by omega) (by rw [Int.mul_comm]; exact hj)
  have h4 := Int.emod_add_mul_ediv (j : Int) W
  exact ⟨h0, h1, h2, h3, by rw [Int.mul_comm] at h4; omega⟩
/-- a pixel of a crop is a pixel of the plane -/
theorem crop_from {W H M : Int} {L : List Int} {x0 y0 x1 y1 : Int} (h : cropOk W H M L x0 y0 x1 y1) {j : Nat} (hj : j < (cropL W L x0 y0 x1 y1).length) : ∃ i, i < L.length ∧ (cropL W L x0 y0 x1 y1).getD j 0 = L.getD i 0 ∧ (i : Int) = (y0 + (j : Int) / (x1 - x0)) * W + (x0 + (j : Int) % (x1 - x0)) := by
  obtain ⟨⟨a0, a1, a2⟩, b0, b1, b2⟩ := cropOk_bd h
  obtain ⟨hz, hl, _⟩ := planeB_t.1 h.1
  rw [cropL_len] at hj
  have hpos : 0 ≤ (x1 - x0) * (y1 - y0) := Int.mul_nonneg (by omega) (by omega)
  obtain ⟨p0, p1, p2, p3, p4⟩ := place_in (W := x1 - x0) (H := y1 - y0) (j := j) (by omega) (by omega)
  obtain ⟨t0, t1⟩ := place_bd (W := W) (H := H) (k := y0 + (j : Int) / (x1 - x0)) (i := x0 + (j : Int) % (x1 - x0)) (by omega) (by omega) (by omega) (by omega)
  refine ⟨((y0 + (j : Int) / (x1 - x0)) * W + (x0 + (j : Int) % (x1 - x0))).toNat, by omega, cropL_at hj, by omega⟩
theorem crop_plane {W H M : Int} {L : List Int} {x0 y0 x1 y1 : Int} (h : cropOk W H M L x0 y0 x1 y1) : planeB (x1 - x0) (y1 - y0) M (cropL W L x0 y0 x1 y1) = true := by
  refine planeB_all (cropOk_size h) ?_ (fun j hj => ?_)
  · obtain ⟨⟨a0, a1, a2⟩, b0, b1, b2⟩ := cropOk_bd h
    have hpos : 0 ≤ (x1 - x0) * (y1 - y0) := Int.mul_nonneg (by omega) (by omega)
    rw [cropL_len]; omega
  · obtain ⟨i, hi, e, _⟩ := crop_from h hj
    rw [e]; exact (planeB_t.1 h.1).2.2 i hi
theorem crop_place {W H M : Int} {L : List Int} {x0 y0 x1 y1 : Int} (h : cropOk W H M L x0 y0 x1 y1) : placeOk W H (x1 - x0) (y1 - y0) x0 y0 := by
  obtain ⟨⟨a0, a1, a2⟩, b0, b1, b2⟩ := cropOk_bd h
  unfold placeOk; omega
theorem plane_under {W H M : Int} {K : List Int} (h : planeB W H M K = true) : Under M K K.length := fun k hk => ((planeB_t.1 h).2.2 k hk).2
/-- what a blit leaves -/
theorem blitL_len {W : Int} {L : List Int} {W2 : Int} {K : List Int} {x y : Int} : (blitL W L W2 K x y).length = L.length := by simp [blitL]
theorem blitL_at {W : Int} {L : List Int} {W2 : Int} {K : List Int} {x y : Int} {j : Nat} (hj : j < L.length) : (blitL W L W2 K x y).getD j 0 = blitAt W L W2 K x y K.length j := by
  simp [blitL, List.getD_eq_getElem?_getD, hj]
theorem blit_in {W H M : Int} {L : List Int} {W2 H2 M2 : Int} {K : List Int} {x y : Int} (hv : planeB W H M L = true) (hv2 : planeB W2 H2 M2 K = true) (hp : placeOk W H W2 H2 x y) {j : Nat} (hj : j < L.length) :
    ((0 ≤ (j : Int) % W - x ∧ (j : Int) % W - x < W2 ∧ 0 ≤ (j : Int) / W - y ∧ (j : Int) / W - y < H2) ∧ ∃ i, i < K.length ∧ (blitL W L W2 K x y).getD j 0 = K.getD i 0 ∧ (i : Int) = ((j : Int) / W - y) * W2 + ((j : Int) % W - x)) ∨
    (¬ (0 ≤ (j : Int) % W - x ∧ (j : Int) % W - x < W2 ∧ 0 ≤ (j : Int) / W - y ∧ (j : Int) / W - y < H2) ∧ (blitL W L W2 K x y).getD j 0 = L.getD j 0) := by
  obtain ⟨⟨w1, w2⟩, ⟨h1, h2⟩, _⟩ := sizeB_t.1 (planeB_t.1 hv).1
  obtain ⟨⟨c1, c2⟩, ⟨d1, d2⟩, _⟩ := sizeB_t.1 (planeB_t.1 hv2).1
  have hl2 := (planeB_t.1 hv2).2.1
  rw [blitL_at hj]
  unfold blitAt
  by_cases hin : 0 ≤ (j : Int) % W - x ∧ (j : Int) % W - x < W2 ∧ 0 ≤ (j : Int) / W - y ∧ (j : Int) / W - y < H2
  · left
    obtain ⟨i0, i1, i2, i3⟩ := hin
    obtain ⟨t0, t1⟩ := place_bd (W := W2) (H := H2) i2 i3 i0 i1
    refine ⟨⟨i0, i1, i2, i3⟩, (((j : Int) / W - y) * W2 + ((j : Int) % W - x)).toNat, by omega, ?_, by omega⟩
    rw [if_pos (by omega)]
  · right
    refine ⟨hin, ?_⟩
    rw [if_neg]
    rintro ⟨q1, q2, q3, q4⟩
    apply hin
    refine ⟨q1, q2, q3, ?_⟩
    have e : ((j : Int) / W - y) * W2 < H2 * W2 := by rw [Int.mul_comm H2]; omega
    exact Int.lt_of_mul_lt_mul_right e (by omega)
theorem blit_plane {W H M : Int} {L : List Int} {W2 H2 M2 : Int} {K : List Int} {x y : Int} (hv : planeB W H M L = true) (hv2 : planeB W2 H2 M2 K = true) (hp : placeOk W H W2 H2 x y) (hu : Under M K K.length) : planeB W H M (blitL W L W2 K x y) = true := by
  refine planeB_all (planeB_t.1 hv).1 (by rw [blitL_len]; exact (planeB_t.1 hv).2.1) (fun j hj => ?_)
  rw [blitL_len] at hj
  rcases blit_in hv hv2 hp hj with ⟨_, i, hi, e, _⟩ | ⟨_, e⟩
  · rw [e]; exact ⟨((planeB_t.1 hv2).2.2 i hi).1, hu i hi⟩
  · rw [e]; exact (planeB_t.1 hv).2.2 j hj
/-- a list of a length that agrees everywhere -/
theorem list_eq {A B : List Int} (hl : A.length = B.length) (h : ∀ j, j < A.length → A.getD j 0 = B.getD j 0) : A = B := agree_eq hl h
/-- blitting a crop at its place changes nothing -/
theorem blit_crop {W H M : Int} {L : List Int} {x0 y0 x1 y1 : Int} (h : cropOk W H M L x0 y0 x1 y1) : blitL W L (x1 - x0) (cropL W L x0 y0 x1 y1) x0 y0 = L := by
  have hv2 := crop_plane h
  have hp := crop_place h
  obtain ⟨⟨a0, a1, a2⟩, b0, b1, b2⟩ := cropOk_bd h
  obtain ⟨⟨w1, w2⟩, ⟨h1, h2⟩, _⟩ := sizeB_t.1 (planeB_t.1 h.1).1
  refine list_eq blitL_len (fun j hj => ?_)
  rw [blitL_len] at hj
  rcases blit_in h.1 hv2 hp hj with ⟨⟨i0, i1, i2, i3⟩, i, hi, e, ei⟩ | ⟨_, e⟩
  · rw [e]
    obtain ⟨k, hk, ek, ek2⟩ := crop_from h hi
    rw [ek]
    have hl := (planeB_t.1 h.1).2.1
    obtain ⟨p0, p1, p2, p3, p4⟩ := place_in (W := W) (H := H) (j := j) w1 (by omega)
    have q1 : (i : Int) / (x1 - x0) = (j : Int) / W - y0 := by
      rw [ei, Int.add_comm, Int.add_mul_ediv_right _ _ (by omega), Int.ediv_eq_zero_of_lt i0 i1]; omega
    have q2 : (i : Int) % (x1 - x0) = (j : Int) % W - x0 := by
      rw [ei, Int.add_comm, Int.add_mul_emod_self_right]; exact Int.emod_eq_of_lt i0 i1
    rw [q1, q2, show y0 + ((j : Int) / W - y0) = (j : Int) / W by omega, show x0 + ((j : Int) % W - x0) = (j : Int) % W by omega, p4] at ek2
    have : k = j := by omega
    rw [this]
  · exact e
/-- cropping what was blitted gives it back -/
theorem crop_blit {W H M : Int} {L : List Int} {M2 : Int} {K : List Int} {x0 y0 x1 y1 : Int} (hv : planeB W H M L = true) (hv2 : planeB (x1 - x0) (y1 - y0) M2 K = true) (hp : placeOk W H (x1 - x0) (y1 - y0) x0 y0) (hu : Under M K K.length) :
    cropOk W H M (blitL W L (x1 - x0) K x0 y0) x0 y0 x1 y1 ∧ cropL W (blitL W L (x1 - x0) K x0 y0) x0 y0 x1 y1 = K := by
  have hb := blit_plane hv hv2 hp hu
  obtain ⟨g1, g2, g3, g4⟩ := hp
  obtain ⟨⟨c1, c2⟩, ⟨d1, d2⟩, _⟩ := sizeB_t.1 (planeB_t.1 hv2).1
  obtain ⟨⟨w1, w2⟩, ⟨h1, h2⟩, _⟩ := sizeB_t.1 (planeB_t.1 hv).1
  have hok := crop_ok hb (x0 := x0) (y0 := y0) (x1 := x1) (y1 := y1) (by omega) (by omega)
  refine ⟨hok, list_eq ?_ (fun j hj => ?_)⟩
  · have := (planeB_t.1 hv2).2.1
    rw [cropL_len]; omega
  · obtain ⟨i, hi, e, ei⟩ := crop_from hok hj
    rw [e]
    have hjl := hj
    rw [cropL_len] at hjl
    have hpos : 0 ≤ (x1 - x0) * (y1 - y0) := Int.mul_nonneg (by omega) (by omega)
    obtain ⟨p0, p1, p2, p3, p4⟩ := place_in (W := x1 - x0) (H := y1 - y0) (j := j) (by omega) (by omega)
    rw [blitL_len] at hi
    have q1 : (i : Int) / W = y0 + (j : Int) / (x1 - x0) := by
      rw [ei, Int.add_comm ((y0 + (j : Int) / (x1 - x0)) * W), Int.add_mul_ediv_right _ _ (by omega), Int.ediv_eq_zero_of_lt (by omega) (by omega)]; omega
    have q2 : (i : Int) % W = x0 + (j : Int) % (x1 - x0) := by
      rw [ei, Int.add_comm ((y0 + (j : Int) / (x1 - x0)) * W), Int.add_mul_emod_self_right]; exact Int.emod_eq_of_lt (by omega) (by omega)
    rcases blit_in hv hv2 ⟨g1, g2, g3, g4⟩ hi with ⟨_, k, hk, ek, ek2⟩ | ⟨hn, _⟩
    · rw [ek]
      rw [q1, q2, show y0 + (j : Int) / (x1 - x0) - y0 = (j : Int) / (x1 - x0) by omega, show x0 + (j : Int) % (x1 - x0) - x0 = (j : Int) % (x1 - x0) by omega, p4] at ek2
      have : k = j := by omega
      rw [this]
    · exact absurd ⟨by omega, by omega, by omega, by omega⟩ hn
end Go.Proofs.Ytibmoibhbgbfoaa
