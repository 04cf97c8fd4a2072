/- Box taps as plain numbers: bounds, and what the walk meets behind Go's wraps. No program is named. -/
import Derived.Test.YtjmdpebocchdhaaDoorTDivPlain
import Derived.Test.YtjmdpebocchdhaaDoorTLinear
namespace Go.Proofs.YtjmdpebocchdhaaDoor
open Go.ChangeShapes Go.WideShapes Go.ChangeAt Go.RowKit
set_option linter.unusedVariables false
set_option linter.unusedSimpArgs false

/-- the interval of an output coordinate -/
theorem box_facts {n m : Int} {i : Nat} (hn : 1 ≤ n ∧ n ≤ 128) (hm : 1 ≤ m ∧ m ≤ 128) (hi : (i : Int) < m) : ∃ A B F : Int, (i : Int) * n = A ∧ ((i : Int) + 1) * n = B ∧ boxF n m i = F ∧ A / m = F ∧ (0 ≤ A ∧ A ≤ 16384) ∧ B = A + n ∧ (0 ≤ F ∧ F ≤ 128) ∧ F * m ≤ A ∧ A < (F + 1) * m := by
  have h0 : 0 ≤ (i : Int) * n := Int.mul_nonneg (by omega) (by omega)
  have h1 : (i : Int) * n ≤ 128 * 128 := by
    calc (i : Int) * n ≤ 128 * n := Int.mul_le_mul_of_nonneg_right (by omega) (by omega)
      _ ≤ 128 * 128 := Int.mul_le_mul_of_nonneg_left hn.2 (by omega)
  have h2 : (i : Int) * n < m * 128 := by
    calc (i : Int) * n ≤ (m - 1) * n := Int.mul_le_mul_of_nonneg_right (by omega) (by omega)
      _ ≤ (m - 1) * 128 := Int.mul_le_mul_of_nonneg_left hn.2 (by omega)
      _ < m * 128 := by omega
  have hd := Int.emod_add_mul_ediv ((i : Int) * n) m
  have hr0 := Int.emod_nonneg ((i : Int) * n) (show m ≠ 0 by omega)
  have hr1 := Int.emod_lt_of_pos ((i : Int) * n) (show 0 < m by omega)
  have hF0 : 0 ≤ (i : Int) * n / m := Int.ediv_nonneg h0 (by omega)
  have hF1 : (i : Int) * n / m < 128 := (Int.ediv_lt_iff_lt_mul (by omega)).2 (by omega)
  have hc : m * ((i : Int) * n / m) = (i : Int) * n / m * m := Int.mul_comm _ _
  rw [hc] at hd
  refine ⟨(i : Int) * n, ((i : Int) + 1) * n, (i : Int) * n / m, rfl, rfl, rfl, rfl, ⟨h0, h1⟩, by rw [Int.add_mul, Int.one_mul], ⟨hF0, by omega⟩, by omega, ?_⟩
  rw [Int.add_mul, Int.one_mul]; omega
/-- how many source coordinates have a part -/
theorem boxN_is {n m : Int} {i : Nat} {B F : Int} (hm : 1 ≤ m ∧ m ≤ 128) (hB : ((i : Int) + 1) * n = B) (hF : boxF n m i = F) (h0 : F * m < B) (hF0 : 0 ≤ F) (hB1 : B ≤ 16512) : 1 ≤ boxN n m i ∧ boxN n m i ≤ 16640 ∧ ∀ j : Nat, j < boxN n m i ↔ (F + j) * m < B := by
  have e : boxN n m i = ((B + m - 1) / m - F).toNat := by unfold boxN; rw [hB, hF]
  have key : ∀ x : Int, x * m < B ↔ x < (B + m - 1) / m := by
    intro x
    constructor
    · intro h
      have : x + 1 ≤ (B + m - 1) / m := (Int.le_ediv_iff_mul_le (by omega)).2 (by rw [Int.add_mul, Int.one_mul]; omega)
      omega
    · intro h
      have h1 : x + 1 ≤ (B + m - 1) / m := by omega
      have := (Int.le_ediv_iff_mul_le (by omega)).1 h1
      rw [Int.add_mul, Int.one_mul] at this
      omega
  have hFl := (key F).1 h0
  have hup : (B + m - 1) / m ≤ B + m - 1 := by
    have : (B + m - 1) / m < B + m - 1 + 1 := by
      refine (Int.ediv_lt_iff_lt_mul (by omega)).2 ?_
      have : 0 ≤ F * m := Int.mul_nonneg hF0 (by omega)
      have h3 : (B + m - 1 + 1) * 1 ≤ (B + m - 1 + 1) * m := Int.mul_le_mul_of_nonneg_left (by omega) (by omega)
      omega
    omega
  refine ⟨by omega, by omega, fun j => ?_⟩
  rw [e, key]
  omega
/-- one part by name -/
theorem boxP_names {n m : Int} {i : Nat} (hn : 1 ≤ n ∧ n ≤ 128) (hm : 1 ≤ m ∧ m ≤ 128) {A B F : Int} (hA : (i : Int) * n = A) (hB : ((i : Int) + 1) * n = B) (hF : boxF n m i = F) (a1 : 0 ≤ A ∧ A ≤ 16384) (a2 : B = A + n) (a3 : 0 ≤ F ∧ F ≤ 128) (a4 : F * m ≤ A) (a5 : A < (F + 1) * m) {j : Nat} (hj : (F + j) * m < B) (hj2 : j ≤ 20000) :
    ∃ KM K1M x : Int, (F + (j : Int)) * m = KM ∧ (F + (j : Int) + 1) * m = K1M ∧ min B K1M - max A KM = x ∧ boxP n m i j = x ∧ (0 ≤ KM ∧ KM ≤ 16512) ∧ K1M = KM + m ∧ (1 ≤ x ∧ x ≤ 128) := by
  have e1 : (F + (j : Int) + 1) * m = (F + (j : Int)) * m + m := by rw [Int.add_mul (F + (j : Int)) 1 m, Int.one_mul]
  have h0 : 0 ≤ (F + (j : Int)) * m := Int.mul_nonneg (by omega) (by omega)
  have h1 : (F + 1) * m ≤ (F + (j : Int) + 1) * m := Int.mul_le_mul_of_nonneg_right (by omega) (by omega)
  obtain ⟨KM, eK⟩ : ∃ KM, (F + (j : Int)) * m = KM := ⟨_, rfl⟩
  rw [eK] at e1 hj h0
  rw [e1] at h1
  refine ⟨KM, KM + m, _, eK, e1, rfl, ?_, by omega, rfl, by omega⟩
  unfold boxP
  rw [hA, hB, hF, e1, eK]
theorem boxPs_len (n m i : Int) : (boxPs n m i).length = boxN n m i := by simp [boxPs]
theorem boxPs_at {n m i : Int} {j : Nat} (hj : j < boxN n m i) : (boxPs n m i).getD j 0 = boxP n m i j := by
  unfold boxPs
  simp [List.getD_eq_getElem?_getD, hj]
theorem boxPs_take {n m i : Int} {j : Nat} (hj : j < boxN n m i) : (boxPs n m i).take (j + 1) = (boxPs n m i).take j ++ [boxP n m i j] := by
  rw [List.take_succ_eq_append_getElem (by rw [boxPs_len]; exact hj)]
  congr 2
  have := boxPs_at hj
  rw [List.getD_eq_getElem?_getD, List.getElem?_eq_getElem (by rw [boxPs_len]; exact hj)] at this
  exact this
/-- the parts of a box tap with few weights -/
theorem boxPs_ok {n m : Int} {i : Nat} (hn : 1 ≤ n ∧ n ≤ 128) (hm : 1 ≤ m ∧ m ≤ 128) (hi : (i : Int) < m) (h8 : boxN n m i ≤ 8) : PartsOk (boxPs n m i) := by
  obtain ⟨A, B, F, hA, hB, hF, hq, a1, a2, a3, a4, a5⟩ := box_facts hn hm hi
  have hN := boxN_is hm hB hF (by omega) a3.1 (by omega)
  refine ⟨by rw [boxPs_len]; exact ⟨hN.1, h8⟩, fun j hj => ?_⟩
  rw [boxPs_len] at hj
  obtain ⟨KM, K1M, x, _, _, _, h4, _, _, h7⟩ := boxP_names hn hm hA hB hF a1 a2 a3 a4 a5 ((hN.2.2 j).1 hj) (by omega)
  rw [boxPs_at hj, h4]; exact h7
/-- what the walk meets ahead of the parts -/
theorem box_wraps {n m : Int} {i : Nat} (hn : 1 ≤ n ∧ n ≤ 128) (hm : 1 ≤ m ∧ m ≤ 128) (hi : (i : Int) < m) : ∃ A B F : Int, wrap64 ((i : Int) * n) = A ∧ wrap64 (((i : Int) + 1) * n) = B ∧ wrap64 (A.tdiv m) = F ∧ A.tdiv m = F ∧ (0 ≤ F ∧ F ≤ 128) ∧ 1 ≤ boxN n m i ∧ boxN n m i ≤ 16640 ∧ boxF n m i = F ∧
    (∀ j : Nat, j < boxN n m i → ∃ KM K1M Q1 Q2 x : Int, wrap64 ((F + (j : Int)) * m) = KM ∧ wrap64 ((F + (j : Int) + 1) * m) = K1M ∧ min B K1M = Q1 ∧ max A KM = Q2 ∧ wrap64 (Q1 - Q2) = x ∧ KM < B ∧ boxP n m i j = x) ∧
    (∃ KM : Int, wrap64 ((F + (boxN n m i : Int)) * m) = KM ∧ ¬ KM < B) := by
  obtain ⟨A, B, F, hA, hB, hF, hq, a1, a2, a3, a4, a5⟩ := box_facts hn hm hi
  have hN := boxN_is hm hB hF (by omega) a3.1 (by omega)
  have ht : A.tdiv m = F := by rw [Int.tdiv_eq_ediv_of_nonneg (by omega)]; exact hq
  refine ⟨A, B, F, by rw [hA]; exact w64 (by omega), by rw [hB]; exact w64 (by omega), by rw [ht]; exact w64 (by omega), ht, a3, hN.1, hN.2.1, hF, fun j hj => ?_, ?_⟩
  · have hlt := (hN.2.2 j).1 hj
    obtain ⟨KM, K1M, x, h1, h2, h3, h4, h5, h6, h7⟩ := boxP_names hn hm hA hB hF a1 a2 a3 a4 a5 hlt (by omega)
    refine ⟨KM, K1M, _, _, x, by rw [h1]; exact w64 (by omega), by rw [h2]; exact w64 (by omega), rfl, rfl, by rw [h3]; exact w64 (by omega), by omega, h4⟩
  · have hnot : ¬ (F + (boxN n m i : Int)) * m < B := fun h => by have := (hN.2.2 (boxN n m i)).2 h; omega
    have hb : (F + (boxN n m i : Int)) * m ≤ 20000 * 128 := by
      calc (F + (boxN n m i : Int)) * m ≤ 20000 * m := Int.mul_le_mul_of_nonneg_right (by omega) (by omega)
        _ ≤ 20000 * 128 := Int.mul_le_mul_of_nonneg_left hm.2 (by omega)
    have h0 : 0 ≤ (F + (boxN n m i : Int)) * m := Int.mul_nonneg (by omega) (by omega)
    refine ⟨_, w64 (by omega), hnot⟩
end Go.Proofs.YtjmdpebocchdhaaDoor
