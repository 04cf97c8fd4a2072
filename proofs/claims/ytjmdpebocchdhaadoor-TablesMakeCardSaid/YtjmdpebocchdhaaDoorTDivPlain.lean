/- Parts of a total by largest remainders, as plain lists: bounds, and the steps of the loops. No program is named. -/
import Derived.Test.YtjmdpebocchdhaaDoorTPlain
namespace Go.Proofs.YtjmdpebocchdhaaDoor
set_option linter.unusedVariables false
set_option linter.unusedSimpArgs false

/-- parts: few, positive and small -/
def PartsOk (P : List Int) : Prop := (1 ≤ P.length ∧ P.length ≤ 8) ∧ ∀ k, k < P.length → 1 ≤ P.getD k 0 ∧ P.getD k 0 ≤ 128
theorem take_sum {P : List Int} {k : Nat} (hk : k < P.length) : (P.take (k + 1)).sum = (P.take k).sum + P.getD k 0 := by
  rw [List.take_succ_eq_append_getElem hk, List.sum_append, List.getD_eq_getElem?_getD, List.getElem?_eq_getElem hk]; simp
theorem parts_sum {P : List Int} (h : PartsOk P) : ∀ k, k ≤ P.length → (k : Int) ≤ (P.take k).sum ∧ (P.take k).sum ≤ 128 * k ∧ ∀ j, j < k → P.getD j 0 ≤ (P.take k).sum := by
  intro k
  induction k with
  | zero => intro _; simp
  | succ k ih =>
    intro hk
    have h1 := ih (by omega)
    have h2 := h.2 k (by omega)
    rw [take_sum (by omega)]
    refine ⟨by omega, by omega, fun j hj => ?_⟩
    by_cases e : j = k
    · subst e; omega
    · have := h1.2.2 j (by omega); omega
theorem floors_at {total S : Int} {P : List Int} {k : Nat} (hk : k < P.length) : (floorsL total S P).getD k 0 = total * P.getD k 0 / S ∧ (restsL total S P).getD k 0 = total * P.getD k 0 % S := by
  unfold floorsL restsL
  simp [List.getD_eq_getElem?_getD, hk]
theorem floors_len (total S : Int) (P : List Int) : (floorsL total S P).length = P.length ∧ (restsL total S P).length = P.length := by simp [floorsL, restsL]
/-- the numbers of one part by name -/
theorem part_names {total : Int} {P : List Int} (h : PartsOk P) (ht : 0 ≤ total ∧ total ≤ 16384) {k : Nat} (hk : k < P.length) : ∃ M F R : Int, total * P.getD k 0 = M ∧ M.tdiv P.sum = F ∧ M.tmod P.sum = R ∧ (0 ≤ M ∧ M ≤ 2097152) ∧ (0 ≤ F ∧ F ≤ total) ∧ (0 ≤ R ∧ R ≤ 1024) ∧ (floorsL total P.sum P).getD k 0 = F ∧ (restsL total P.sum P).getD k 0 = R := by
  have hs := parts_sum h P.length (Nat.le_refl _)
  rw [List.take_length] at hs
  have hp := h.2 k hk
  have hle := hs.2.2 k hk
  have hl := h.1
  have hM0 : 0 ≤ total * P.getD k 0 := Int.mul_nonneg ht.1 (by omega)
  have hM1 : total * P.getD k 0 ≤ 16384 * 128 := by
    calc total * P.getD k 0 ≤ 16384 * P.getD k 0 := Int.mul_le_mul_of_nonneg_right ht.2 (by omega)
      _ ≤ 16384 * 128 := Int.mul_le_mul_of_nonneg_left hp.2 (by omega)
  have hM2 : total * P.getD k 0 ≤ total * P.sum := Int.mul_le_mul_of_nonneg_left hle ht.1
  have hF0 : 0 ≤ total * P.getD k 0 / P.sum := Int.ediv_nonneg hM0 (by omega)
  have hF1 : total * P.getD k 0 / P.sum ≤ total := by
    have : total * P.getD k 0 / P.sum < total + 1 := (Int.ediv_lt_iff_lt_mul (by omega)).2 (by rw [Int.add_mul]; omega)
    omega
  have hR0 := Int.emod_nonneg (total * P.getD k 0) (show P.sum ≠ 0 by omega)
  have hR1 := Int.emod_lt_of_pos (total * P.getD k 0) (show 0 < P.sum by omega)
  refine ⟨_, _, _, rfl, rfl, rfl, ⟨hM0, hM1⟩, ?_, ?_, ?_, ?_⟩
  · rw [Int.tdiv_eq_ediv_of_nonneg hM0]; exact ⟨hF0, hF1⟩
  · rw [Int.tmod_eq_emod_of_nonneg hM0]; exact ⟨hR0, by omega⟩
  · rw [Int.tdiv_eq_ediv_of_nonneg hM0]; exact (floors_at hk).1
  · rw [Int.tmod_eq_emod_of_nonneg hM0]; exact (floors_at hk).2
/-- what is left, and the numbers so far, stay small -/
def SmallO (O : List Int) (left : Int) : Prop := ∀ k, 0 ≤ O.getD k 0 ∧ O.getD k 0 + left ≤ 40000
theorem smallO_step {O : List Int} {left : Int} {b : Nat} (h : SmallO O left) (hl : 0 < left) : SmallO (O.set b (O.getD b 0 + 1)) (left - 1) := by
  intro k
  have h1 := h k
  have h2 := h b
  by_cases e : b = k
  · subst e
    by_cases g : b < O.length
    · have : (O.set b (O.getD b 0 + 1)).getD b 0 = O.getD b 0 + 1 := by rw [List.getD_eq_getElem?_getD, List.getElem?_set_self g]; rfl
      rw [this]; omega
    · have : (O.set b (O.getD b 0 + 1)).getD b 0 = 0 := by rw [List.getD_eq_getElem?_getD, List.getElem?_eq_none (by simp; omega)]; rfl
      rw [this]; omega
  · have : (O.set b (O.getD b 0 + 1)).getD k 0 = O.getD k 0 := by rw [List.getD_eq_getElem?_getD, List.getElem?_set_ne e, ← List.getD_eq_getElem?_getD]
    rw [this]; omega
theorem bestAt_one (R : List Int) : bestAt R 1 = 0 := by have := best_lt R 1; omega
theorem bestAt_step (R : List Int) (k : Nat) : bestAt R (k + 1) = if R.getD (bestAt R k) 0 < R.getD k 0 then k else bestAt R k := rfl
theorem floors_small {total : Int} {P : List Int} (h : PartsOk P) (ht : 0 ≤ total ∧ total ≤ 16384) (left : Int) (hl : left ≤ 16384) : SmallO (floorsL total P.sum P) left := by
  intro k
  by_cases hk : k < P.length
  · obtain ⟨M, F, R, _, _, _, _, hF, _, e, _⟩ := part_names h ht hk
    rw [e]; omega
  · have : (floorsL total P.sum P).getD k 0 = 0 := by rw [List.getD_eq_getElem?_getD, List.getElem?_eq_none (by rw [(floors_len _ _ _).1]; omega)]; rfl
    rw [this]; omega
theorem floors_sum {total : Int} {P : List Int} (h : PartsOk P) (ht : 0 ≤ total ∧ total ≤ 16384) : ∀ k, k ≤ P.length → 0 ≤ ((floorsL total P.sum P).take k).sum ∧ ((floorsL total P.sum P).take k).sum ≤ 16384 * k := by
  intro k
  induction k with
  | zero => intro _; simp
  | succ k ih =>
    intro hk
    have h1 := ih (by omega)
    obtain ⟨M, F, R, _, _, _, _, hF, _, e, _⟩ := part_names h ht (k := k) (by omega)
    rw [take_sum (by rw [(floors_len _ _ _).1]; omega), e]
    omega
end Go.Proofs.YtjmdpebocchdhaaDoor
