/- The nearest integer to a mantissa times a power of two, of two nearest ones the even one; scaled values. No program is named. -/
import Derived.Test.YtnkiieiebldpoaaDoorFPlain
namespace Go.Proofs.YtnkiieiebldpoaaDoor
set_option linter.unusedVariables false
set_option linter.unusedSimpArgs false

/-- the nearest integer to M / 2^k -/
def rnd (M k : Nat) : Nat := if 2 ^ k < 2 * (M % 2 ^ k) ∨ (2 * (M % 2 ^ k) = 2 ^ k ∧ M / 2 ^ k % 2 = 1) then M / 2 ^ k + 1 else M / 2 ^ k
/-- the nearest integer to M * 2^E -/
def near (M : Nat) (E : Int) : Nat := if 0 ≤ E then M * 2 ^ E.toNat else rnd M (-E).toNat
/-- the value's size, scaled -/
def sizeN (x s : Int) : Nat := near (mantN x).toNat (e0N x + s)
def scaleC (x s : Int) : Int := if s < 0 ∨ 24 < s then 2 else if 2 < classN x then 1 else if 32767 < sizeN x s then 3 else 0
def scaleN (x s : Int) : Int := if scaleC x s = 0 then (if sgB x = true then -(sizeN x s : Int) else sizeN x s) else 0
theorem rnd_zero (k : Nat) : rnd 0 k = 0 := by
  unfold rnd
  simp
theorem near_zero (E : Int) : near 0 E = 0 := by
  unfold near; split
  · simp
  · exact rnd_zero _
theorem rnd_div {f j k : Nat} (h : k ≤ j) : rnd (f * 2 ^ j) k = f * 2 ^ (j - k) := by
  have e : f * 2 ^ j = f * 2 ^ (j - k) * 2 ^ k := by rw [Nat.mul_assoc, ← Nat.pow_add]; congr 2; omega
  have hp := Nat.two_pow_pos k
  unfold rnd
  rw [e, Nat.mul_mod_left, Nat.mul_div_cancel _ hp]
  rw [if_neg (by omega)]
theorem rnd_scale {f j k : Nat} (h : j ≤ k) : rnd (f * 2 ^ j) k = rnd f (k - j) := by
  have e : 2 ^ k = 2 ^ (k - j) * 2 ^ j := by rw [← Nat.pow_add]; congr 1; omega
  have hp := Nat.two_pow_pos j
  unfold rnd
  rw [e, Nat.mul_mod_mul_right, Nat.mul_div_mul_right _ _ hp]
  have a : 2 ^ (k - j) * 2 ^ j < 2 * (f % 2 ^ (k - j) * 2 ^ j) ↔ 2 ^ (k - j) < 2 * (f % 2 ^ (k - j)) := by
    rw [← Nat.mul_assoc]; exact Nat.mul_lt_mul_right hp
  have b : 2 * (f % 2 ^ (k - j) * 2 ^ j) = 2 ^ (k - j) * 2 ^ j ↔ 2 * (f % 2 ^ (k - j)) = 2 ^ (k - j) := by
    rw [← Nat.mul_assoc]; exact ⟨fun h => Nat.eq_of_mul_eq_mul_right hp h, fun h => by rw [h]⟩
  simp only [a, b]
theorem near_mul (f j : Nat) (E : Int) : near (f * 2 ^ j) E = near f (E + j) := by
  unfold near
  by_cases h : 0 ≤ E
  · rw [if_pos h, if_pos (by omega), Nat.mul_assoc, ← Nat.pow_add]
    congr 2; omega
  · rw [if_neg h]
    by_cases g : 0 ≤ E + j
    · rw [if_pos g, rnd_div (by omega)]
      congr 2; omega
    · rw [if_neg g, rnd_scale (by omega)]
      congr 1; omega
theorem near_up {f : Nat} {p : Nat} : near f (p : Int) = f * 2 ^ p := by
  unfold near; rw [if_pos (by omega)]; congr 2
theorem near_down {f k : Nat} (hk : 0 < k) : near f (-(k : Int)) = rnd f k := by
  unfold near; rw [if_neg (by omega)]; congr 1; omega
theorem near_tiny {f : Nat} {E : Int} (hf : f < 9007199254740992) (hE : E < -60) : near f E = 0 := by
  obtain ⟨k, ek⟩ : ∃ k : Nat, E = -(k : Int) := ⟨(-E).toNat, by omega⟩
  subst ek
  rw [near_down (by omega)]
  have h1 : 2 ^ 60 ≤ 2 ^ k := Nat.pow_le_pow_right (by decide) (by omega)
  have h2 : (2 : Nat) ^ 60 = 1152921504606846976 := by decide
  unfold rnd
  rw [Nat.mod_eq_of_lt (by omega), Nat.div_eq_of_lt (by omega), if_neg (by omega)]
theorem near_great {f : Nat} {E : Int} (hf : 0 < f) (hE : 15 < E) : 32767 < near f E := by
  obtain ⟨k, rfl⟩ : ∃ k : Nat, E = k := ⟨E.toNat, by omega⟩
  rw [near_up]
  have h1 : 2 ^ 16 ≤ 2 ^ k := Nat.pow_le_pow_right (by decide) (by omega)
  have h2 : (2 : Nat) ^ 16 = 65536 := by decide
  have h3 : 1 * 2 ^ k ≤ f * 2 ^ k := Nat.mul_le_mul_right _ hf
  omega
theorem near_more {f p : Nat} (hf : 32767 < f) : 32767 < near f (p : Int) := by
  rw [near_up]
  have h3 : f * 1 ≤ f * 2 ^ p := Nat.mul_le_mul_left _ (Nat.two_pow_pos p)
  omega
theorem odd_part : ∀ M : Nat, 0 < M → ∃ f j : Nat, f % 2 = 1 ∧ f * 2 ^ j = M := by
  intro M
  induction M using Nat.strongRecOn with
  | _ M ih =>
    intro h
    by_cases hm : M % 2 = 1
    · exact ⟨M, 0, hm, by simp⟩
    · obtain ⟨f, j, h1, h2⟩ := ih (M / 2) (by omega) (by omega)
      refine ⟨f, j + 1, h1, ?_⟩
      rw [Nat.pow_succ, ← Nat.mul_assoc, h2]; omega
/-- the parts of a finite value: the size of its first part, and its scaled size by them -/
theorem parts_size {x : Int} (hc : classN x ≤ 2) : ∃ f : Nat, f < 9007199254740992 ∧ partM x = (if sgB x = true then -(f : Int) else f) ∧ (-1074 ≤ partE x ∧ partE x ≤ 1100) ∧ ∀ s : Int, sizeN x s = near f (partE x + s) := by
  have hb := mant_bd x
  have he := e0_bd x
  by_cases h0 : mantN x = 0
  · obtain ⟨h1, h2⟩ := parts_zero hc h0
    refine ⟨0, by omega, by rw [h1]; simp, by omega, fun s => ?_⟩
    unfold sizeN
    rw [h0, near_zero]; exact near_zero _
  · obtain ⟨f, j, h1, h2⟩ := odd_part (mantN x).toNat (by omega)
    obtain ⟨h3, h4⟩ := parts_at hc (by omega) h1 h2
    have hf : f * 1 ≤ f * 2 ^ j := Nat.mul_le_mul_left _ (Nat.two_pow_pos j)
    have hj : j < 54 := by
      rcases Nat.lt_or_ge j 54 with g | g
      · exact g
      · exfalso
        have h5 : 2 ^ 54 ≤ 2 ^ j := Nat.pow_le_pow_right (by decide) g
        have h6 : 1 * 2 ^ j ≤ f * 2 ^ j := Nat.mul_le_mul_right _ (by omega)
        have h7 : (2 : Nat) ^ 54 = 18014398509481984 := by decide
        omega
    refine ⟨f, by omega, h4, by omega, fun s => ?_⟩
    unfold sizeN
    rw [← h2, near_mul, h3]
    congr 1; omega
theorem scale_range {x s : Int} (h : s < 0 ∨ 24 < s) : scaleN x s = 0 ∧ scaleC x s = 2 := by
  have e : scaleC x s = 2 := by unfold scaleC; rw [if_pos h]
  exact ⟨by unfold scaleN; rw [e, if_neg (by omega)], e⟩
theorem scale_class {x s : Int} (h : 0 ≤ s ∧ s ≤ 24) (hc : 2 < classN x) : scaleN x s = 0 ∧ scaleC x s = 1 := by
  have e : scaleC x s = 1 := by unfold scaleC; rw [if_neg (by omega), if_pos hc]
  exact ⟨by unfold scaleN; rw [e, if_neg (by omega)], e⟩
theorem scale_over {x s : Int} (h : 0 ≤ s ∧ s ≤ 24) (hc : classN x ≤ 2) (ho : 32767 < sizeN x s) : scaleN x s = 0 ∧ scaleC x s = 3 := by
  have e : scaleC x s = 3 := by unfold scaleC; rw [if_neg (by omega), if_neg (by omega), if_pos ho]
  exact ⟨by unfold scaleN; rw [e, if_neg (by omega)], e⟩
theorem scale_ok {x s : Int} (h : 0 ≤ s ∧ s ≤ 24) (hc : classN x ≤ 2) (ho : sizeN x s ≤ 32767) : scaleN x s = (if sgB x = true then -(sizeN x s : Int) else sizeN x s) ∧ scaleC x s = 0 := by
  have e : scaleC x s = 0 := by unfold scaleC; rw [if_neg (by omega), if_neg (by omega), if_neg (by omega)]
  exact ⟨by unfold scaleN; rw [if_pos e], e⟩
theorem scale_bd (x s : Int) : -32767 ≤ scaleN x s ∧ scaleN x s ≤ 32767 := by
  unfold scaleN
  split
  · rename_i h
    have : sizeN x s ≤ 32767 := by
      unfold scaleC at h
      split at h
      · omega
      · split at h
        · omega
        · split at h <;> omega
    split <;> omega
  · omega
theorem scaleC_bd (x s : Int) : 0 ≤ scaleC x s ∧ scaleC x s ≤ 3 := by
  unfold scaleC
  split
  · omega
  · split
    · omega
    · split <;> omega
end Go.Proofs.YtnkiieiebldpoaaDoor
