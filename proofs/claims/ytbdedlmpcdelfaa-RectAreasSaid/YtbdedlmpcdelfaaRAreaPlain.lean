/- Areas and points of the parts of a difference: plain integers. -/
import Derived.Test.YtbdedlmpcdelfaaRSubPlain
namespace Go.Proofs.Ytbdedlmpcdelfaa
open Go.ChangeShapes Go.WideShapes Go.ChangeAt Go.RowKit
set_option linter.unusedVariables false
set_option linter.unusedSimpArgs false

def arR (r : Rc) : Int := areaN r.x0 r.y0 r.x1 r.y1
def sumA (L : List Rc) : Int := (L.map arR).sum
theorem area_bd (a b c d : Int) : 0 ≤ areaN a b c d ∧ areaN a b c d ≤ 4398046511104 := by
  unfold areaN
  split
  · rename_i hv
    rw [validB_t] at hv
    have h1 : 0 ≤ (c - a) * (d - b) := Int.mul_nonneg (by omega) (by omega)
    have h2 : (c - a) * (d - b) ≤ 2097152 * 2097152 := Int.mul_le_mul (by omega) (by omega) (by omega) (by omega)
    omega
  · omega
theorem sumA_step (L : List Rc) (k : Nat) (hk : k < L.length) : sumA (L.take (k + 1)) = sumA (L.take k) + arR (L.getD k ⟨0, 0, 0, 0⟩) := by
  rw [List.take_succ_eq_append_getElem hk]
  unfold sumA
  rw [List.map_append, List.sum_append, List.getD_eq_getElem?_getD, List.getElem?_eq_getElem hk]
  simp
/-- the area of a rectangle in the bounds, also where it has no points -/
theorem ar_pos {a b c d : Int} (h0 : -1048576 ≤ a ∧ a ≤ 1048576) (h1 : -1048576 ≤ b ∧ b ≤ 1048576) (h2 : -1048576 ≤ c ∧ c ≤ 1048576) (h3 : -1048576 ≤ d ∧ d ≤ 1048576) (hac : a ≤ c) (hbd : b ≤ d) :
    (if posB ⟨a, b, c, d⟩ = true then areaN a b c d else 0) = (c - a) * (d - b) := by
  by_cases h : a < c ∧ b < d
  · rw [if_pos (by simp [posB]; exact h)]
    unfold areaN
    rw [if_pos (validB_t.2 (by omega))]
  · rw [if_neg (by simp [posB]; omega)]
    rcases (show c - a = 0 ∨ d - b = 0 by omega) with e | e <;> rw [e] <;> simp
theorem sumA_filter (L : List Rc) : sumA (L.filter posB) = (L.map fun r => if posB r = true then arR r else 0).sum := by
  unfold sumA
  induction L with
  | nil => rfl
  | cons r L ih =>
    by_cases h : posB r = true
    · simp [List.filter_cons, h, ih]
    · simp [List.filter_cons, h, ih]
theorem areas_all {a b c d p q r s : Int} (h1 : a ≤ p ∧ p < r ∧ r ≤ c ∧ b ≤ q ∧ q < s ∧ s ≤ d) (h2 : -1048576 ≤ a ∧ a < c ∧ c ≤ 1048576 ∧ -1048576 ≤ b ∧ b < d ∧ d ≤ 1048576) :
    areaN p q r s + sumA (partsN a b c d ⟨p, q, r, s⟩ 4) = areaN a b c d := by
  have e : List.range 4 = [0, 1, 2, 3] := rfl
  unfold partsN
  rw [sumA_filter, e]
  simp only [List.map_cons, List.map_nil, List.sum_cons, List.sum_nil, partK, arR]
  rw [ar_pos (by omega) (by omega) (by omega) (by omega) (by omega) (by omega), ar_pos (by omega) (by omega) (by omega) (by omega) (by omega) (by omega), ar_pos (by omega) (by omega) (by omega) (by omega) (by omega) (by omega), ar_pos (by omega) (by omega) (by omega) (by omega) (by omega) (by omega)]
  unfold areaN
  rw [if_pos (validB_t.2 (by omega)), if_pos (validB_t.2 (by omega))]
  grind
theorem area_zero : areaN 0 0 0 0 = 0 := by decide +kernel
/-- the parts and the intersection have the area of the rectangle -/
theorem areas_sum {a b c d a' b' c' d' p q r s : Int} {L : List Rc} (hv : validB a b c d = true) (hu : validB a' b' c' d' = true) (hL : subL a b c d a' b' c' d' = L) (hR : interR a b c d a' b' c' d' = ⟨p, q, r, s⟩) :
    areaN p q r s + sumA L = areaN a b c d := by
  subst hL
  rcases he : emptyB a b c d with _ | _
  · have hf := full_t hv he
    rcases hx : emptyB p q r s with _ | _
    · rw [sub_p hf hu hR hx]
      have h1 := inter_in hR hx
      exact areas_all (by omega) (full_bd hf)
    · rw [sub_a hf hu hR hx]
      obtain ⟨rfl, rfl, rfl, rfl⟩ := emptyB_t.1 hx
      simp [sumA, arR, area_zero]
  · rw [sub_u (.inl (full_ev he))]
    obtain ⟨rfl, rfl, rfl, rfl⟩ := emptyB_t.1 he
    have hu2 := validB_t.1 hu
    unfold interR at hR
    rw [if_neg (by rintro ⟨_, _, h3, h4⟩; omega), Rc.mk.injEq] at hR
    obtain ⟨rfl, rfl, rfl, rfl⟩ := hR
    simp [sumA, area_zero]
/-- inside another one exactly if the difference is empty -/
theorem inside_len {a b c d a' b' c' d' : Int} {L : List Rc} (hv : validB a b c d = true) (hu : validB a' b' c' d' = true) (hL : subL a b c d a' b' c' d' = L) :
    insideB a b c d a' b' c' d' = decide (L.length = 0) := by
  subst hL
  obtain ⟨p, q, r, s, hR⟩ : ∃ p q r s, interR a b c d a' b' c' d' = ⟨p, q, r, s⟩ := ⟨_, _, _, _, rfl⟩
  have hv2 := validB_t.1 hv
  have hu2 := validB_t.1 hu
  rw [Bool.eq_iff_iff, insideB_t, decide_eq_true_eq]
  simp only [hv, hu, true_and]
  rcases he : emptyB a b c d with _ | _
  · have hf := full_t hv he
    have hn := emptyB_f.1 he
    have hb := full_bd hf
    rcases hx : emptyB p q r s with _ | _
    · rw [sub_p hf hu hR hx]
      have h1 := inter_in hR hx
      have hR2 := hR
      unfold interR at hR2
      split at hR2
      · rw [Rc.mk.injEq] at hR2
        have e : List.range 4 = [0, 1, 2, 3] := rfl
        unfold partsN
        rw [e, List.length_eq_zero_iff, List.filter_eq_nil_iff]
        simp only [List.map_cons, List.map_nil, partK, List.mem_cons, List.not_mem_nil, or_false, forall_eq_or_imp, forall_eq, posB, decide_eq_true_eq]
        omega
      · rw [Rc.mk.injEq] at hR2
        omega
    · rw [sub_a hf hu hR hx]
      obtain ⟨rfl, rfl, rfl, rfl⟩ := emptyB_t.1 hx
      unfold interR at hR
      split at hR
      · rename_i hk
        rw [Rc.mk.injEq] at hR
        have := hk.2.2
        omega
      · rename_i hk
        have : ¬ (max a a' < min c c' ∧ max b b' < min d d') := fun hh => hk ⟨hv, hu, hh.1, hh.2⟩
        simp
        omega
  · rw [sub_u (.inl (full_ev he))]
    have := emptyB_t.1 he
    simp
    omega
end Go.Proofs.Ytbdedlmpcdelfaa
