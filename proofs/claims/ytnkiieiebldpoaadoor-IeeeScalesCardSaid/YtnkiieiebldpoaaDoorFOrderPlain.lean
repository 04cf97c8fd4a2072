/- The order of values is that of their scaled values; the parts of a value are odd and exact. No program is named. -/
import Derived.Test.YtnkiieiebldpoaaDoorFSignPlain
namespace Go.Proofs.YtnkiieiebldpoaaDoor
set_option linter.unusedVariables false
set_option linter.unusedSimpArgs false

theorem rnd_mono {M N k : Nat} (h : M ≤ N) : rnd M k ≤ rnd N k := by
  have hp := Nat.two_pow_pos k
  have h1 := Nat.div_add_mod M (2 ^ k)
  have h2 := Nat.div_add_mod N (2 ^ k)
  have h3 := Nat.mod_lt M hp
  have h4 := Nat.mod_lt N hp
  have hq : M / 2 ^ k ≤ N / 2 ^ k := Nat.div_le_div_right h
  unfold rnd
  by_cases e : M / 2 ^ k = N / 2 ^ k
  · rw [e] at h1
    have hr : M % 2 ^ k ≤ N % 2 ^ k := by omega
    rw [e]
    generalize 2 ^ k = P at *
    split
    · rename_i g
      rw [if_pos (by omega)]
      exact Nat.le_refl _
    · split <;> omega
  · split <;> split <;> omega
theorem near_mono {M N : Nat} {E : Int} (h : M ≤ N) : near M E ≤ near N E := by
  unfold near
  split
  · exact Nat.mul_le_mul_right _ h
  · exact rnd_mono h
/-- the greater mantissa and exponent give the greater size -/
theorem size_mono {x y s : Int} (hx : In64u x) (hy : In64u y) (h : x % 9223372036854775808 ≤ y % 9223372036854775808) : sizeN x s ≤ sizeN y s := by
  have ex : x % 9223372036854775808 = exN x * 4503599627370496 + frN x := by unfold exN frN; unfold In64u at hx; omega
  have ey : y % 9223372036854775808 = exN y * 4503599627370496 + frN y := by unfold exN frN; unfold In64u at hy; omega
  have a1 := ex_bd x
  have a2 := fr_bd x
  have b1 := ex_bd y
  have b2 := fr_bd y
  have c1 := mant_bd x
  have c2 := mant_bd y
  by_cases g : e0N x = e0N y
  · have hm : mantN x ≤ mantN y := by
      unfold e0N at g
      unfold mantN
      split at g <;> split at g <;> split <;> (try split) <;> omega
    unfold sizeN
    rw [g]
    exact near_mono (by omega)
  · have hlt : e0N x < e0N y ∧ 4503599627370496 ≤ mantN y := by
      unfold e0N at *
      unfold mantN
      split at g <;> split at g <;> split <;> (try split) <;> omega
    obtain ⟨j, hj⟩ : ∃ j : Nat, e0N y = e0N x + (j : Int) + 1 := ⟨(e0N y - e0N x - 1).toNat, by omega⟩
    have e : sizeN y s = near ((mantN y).toNat * 2 ^ (j + 1)) (e0N x + s) := by
      unfold sizeN
      rw [near_mul, hj]
      congr 1; omega
    rw [e]
    refine near_mono ?_
    have hp := Nat.two_pow_pos j
    have h1 : (mantN y).toNat * 2 * 1 ≤ (mantN y).toNat * 2 * 2 ^ j := Nat.mul_le_mul_left _ hp
    have h2 : (mantN y).toNat * 2 ^ (j + 1) = (mantN y).toNat * 2 * 2 ^ j := by rw [Nat.pow_succ, Nat.mul_comm (2 ^ j) 2, Nat.mul_assoc]
    omega
/-- values are ordered as their scaled values -/
theorem scale_order {x y s : Int} (hx : In64u x) (hy : In64u y) (h1 : scaleC x s = 0) (h2 : scaleC y s = 0) (hk : keyN x ≤ keyN y) : scaleN x s ≤ scaleN y s := by
  unfold scaleN
  rw [if_pos h1, if_pos h2]
  unfold keyN at hk
  cases ex : sgB x <;> cases ey : sgB y <;> rw [ex, ey] at hk <;> simp only [Bool.false_eq_true, if_false, if_true] at hk ⊢
  · have := size_mono (s := s) hx hy (by omega); omega
  · have g1 : x % 9223372036854775808 = 0 := by omega
    have g2 : y % 9223372036854775808 = 0 := by omega
    have hz : ∀ z : Int, In64u z → z % 9223372036854775808 = 0 → sizeN z s = 0 := fun z hz g => by
      have a1 := ex_bd z
      have a2 := fr_bd z
      have e : z % 9223372036854775808 = exN z * 4503599627370496 + frN z := by unfold exN frN; unfold In64u at hz; omega
      have e2 : mantN z = 0 := by unfold mantN; rw [if_neg (by omega)]; omega
      unfold sizeN; rw [e2]; exact near_zero _
    rw [hz x hx g1, hz y hy g2]; simp
  · omega
  · have := size_mono (s := s) hy hx (by omega); omega
theorem scale_cmp {x y s : Int} (hx : In64u x) (hy : In64u y) (h1 : scaleC x s = 0) (h2 : scaleC y s = 0) : cmpB x y = true ∧ (cmpN x y ≤ 0 → scaleN x s ≤ scaleN y s) ∧ (0 ≤ cmpN x y → scaleN y s ≤ scaleN x s) := by
  have hfin : ∀ z : Int, scaleC z s = 0 → classN z ≠ 4 := fun z hz => by
    unfold scaleC at hz
    split at hz
    · omega
    · split at hz <;> omega
  have e : cmpB x y = true := by unfold cmpB; simp [hfin x h1, hfin y h2]
  refine ⟨e, fun g => ?_, fun g => ?_⟩
  · unfold cmpN at g
    rw [if_pos e] at g
    refine scale_order hx hy h1 h2 ?_
    split at g
    · omega
    · split at g <;> omega
  · unfold cmpN at g
    rw [if_pos e] at g
    refine scale_order hy hx h2 h1 ?_
    split at g
    · omega
    · split at g <;> omega
/-- the parts of a finite value: both zero, or the first one odd -/
theorem parts_odd {x : Int} (hc : classN x ≤ 2) : (partM x = 0 ∧ partE x = 0) ∨ ∃ f : Nat, f % 2 = 1 ∧ f < 9007199254740992 ∧ partM x = (if sgB x = true then -(f : Int) else f) ∧ ∀ s : Int, sizeN x s = near f (partE x + s) := by
  have hb := mant_bd x
  by_cases h0 : mantN x = 0
  · left; exact parts_zero hc h0
  · right
    obtain ⟨f, j, h1, h2⟩ := odd_part (mantN x).toNat (by omega)
    obtain ⟨h3, h4⟩ := parts_at hc (by omega) h1 h2
    have hf : f * 1 ≤ f * 2 ^ j := Nat.mul_le_mul_left _ (Nat.two_pow_pos j)
    refine ⟨f, h1, by omega, h4, fun s => ?_⟩
    unfold sizeN
    rw [← h2, near_mul, h3]
    congr 1; omega
/-- a value that is a whole number times a power of two is scaled exactly -/
theorem scale_exact {x s : Int} {p : Nat} (h : 0 ≤ s ∧ s ≤ 24) (hc : classN x ≤ 2) (ho : scaleC x s = 0) (hp : partE x + s = p) : scaleN x s = partM x * 2 ^ p := by
  have e : scaleN x s = (if sgB x = true then -(sizeN x s : Int) else sizeN x s) := by unfold scaleN; rw [if_pos ho]
  obtain ⟨f, hf, hm, hd, hs⟩ := parts_size hc
  rw [e, hm, hs s, hp, near_up]
  split <;> simp [Int.neg_mul]
end Go.Proofs.YtnkiieiebldpoaaDoor
