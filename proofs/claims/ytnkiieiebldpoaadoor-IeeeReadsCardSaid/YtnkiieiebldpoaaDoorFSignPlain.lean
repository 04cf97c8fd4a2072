/- Values whose sign alone differs: their class, parts and scaled values; the order of values and of their scaled values. No program is named. -/
import Derived.Test.YtnkiieiebldpoaaDoorFScalePlain
namespace Go.Proofs.YtnkiieiebldpoaaDoor
set_option linter.unusedVariables false
set_option linter.unusedSimpArgs false

/-- the other sign -/
def flip (x : Int) : Int := if sgB x = true then x - 9223372036854775808 else x + 9223372036854775808
theorem sg_cases {x : Int} (h : In64u x) : (sgB x = true ∧ 9223372036854775808 ≤ x ∧ x < 18446744073709551616) ∨ (sgB x = false ∧ 0 ≤ x ∧ x < 9223372036854775808) := by
  unfold In64u at h
  by_cases g : 9223372036854775808 ≤ x
  · left; exact ⟨by simp [sgB, g], g, h.2⟩
  · right; exact ⟨by simp [sgB]; omega, h.1, by omega⟩
theorem flip_in {x : Int} (h : In64u x) : In64u (flip x) := by
  unfold flip
  rcases sg_cases h with ⟨e, h1, h2⟩ | ⟨e, h1, h2⟩ <;> rw [e] <;> simp [In64u] <;> omega
theorem xor_low {a : Nat} (h : a < 9223372036854775808) : a ^^^ 9223372036854775808 = a + 9223372036854775808 := by
  have e : (9223372036854775808 : Nat) = 2 ^ 63 := by decide
  have h' : a < 2 ^ 63 := by omega
  rw [e]
  have h2 : a + 2 ^ 63 = 2 ^ 63 * 1 ||| a := by rw [← Nat.two_pow_add_eq_or_of_lt h']; omega
  rw [h2, Nat.mul_one]
  apply Nat.eq_of_testBit_eq
  intro j
  rw [Nat.testBit_xor, Nat.testBit_or, Nat.testBit_two_pow]
  by_cases g : 63 = j
  · subst g
    rw [Nat.testBit_lt_two_pow h']; simp
  · simp [g]
theorem xor_high {a : Nat} (h : 9223372036854775808 ≤ a) (h2 : a < 18446744073709551616) : a ^^^ 9223372036854775808 = a - 9223372036854775808 := by
  have h1 := xor_low (a := a - 9223372036854775808) (by omega)
  rw [show a - 9223372036854775808 + 9223372036854775808 = a by omega] at h1
  have h3 : a ^^^ 9223372036854775808 = (a - 9223372036854775808 ^^^ 9223372036854775808) ^^^ 9223372036854775808 := by rw [h1]
  rw [h3, Nat.xor_assoc, Nat.xor_self, Nat.xor_zero]
theorem xor_flip {x : Int} (h : In64u x) : bits .xor .u64 x 9223372036854775808 = flip x := by
  obtain ⟨a, rfl⟩ := Int.eq_ofNat_of_zero_le h.1
  have ha : a < 18446744073709551616 := by have := h.2; omega
  have e1 : (BitVec.ofInt 64 (a : Int)).toNat = a := by rw [BitVec.ofInt_natCast, BitVec.toNat_ofNat]; exact Nat.mod_eq_of_lt (by omega)
  have e2 : (BitVec.ofInt 64 (9223372036854775808 : Int)).toNat = 9223372036854775808 := by decide
  show IntKind.u64.wrap ((BitVec.ofInt 64 (a : Int) ^^^ BitVec.ofInt 64 (9223372036854775808 : Int)).toNat : Int) = _
  rw [BitVec.toNat_xor, e1, e2, IntKind.wrap_u64]
  unfold flip
  rcases sg_cases h with ⟨e, h1, h2⟩ | ⟨e, h1, h2⟩
  · rw [e, xor_high (by omega) ha]; simp; omega
  · rw [e, xor_low (by omega)]; simp; omega
theorem flip_sg {x : Int} (h : In64u x) : sgB (flip x) = !sgB x := by
  unfold flip
  rcases sg_cases h with ⟨e, h1, h2⟩ | ⟨e, h1, h2⟩ <;> rw [e] <;> simp [sgB] <;> omega
theorem flip_ex {x : Int} (h : In64u x) : exN (flip x) = exN x := by
  unfold flip exN
  split <;> omega
theorem flip_fr {x : Int} (h : In64u x) : frN (flip x) = frN x := by
  unfold flip frN
  split <;> omega
theorem flip_class {x : Int} (h : In64u x) : classN (flip x) = classN x := by unfold classN; rw [flip_ex h, flip_fr h]
theorem flip_mant {x : Int} (h : In64u x) : mantN (flip x) = mantN x := by unfold mantN; rw [flip_ex h, flip_fr h]
theorem flip_e0 {x : Int} (h : In64u x) : e0N (flip x) = e0N x := by unfold e0N; rw [flip_ex h]
theorem flip_parts {x : Int} (h : In64u x) : partM (flip x) = -partM x ∧ partE (flip x) = partE x ∧ partB (flip x) = partB x := by
  unfold partM partE partB
  rw [flip_class h, flip_mant h, flip_e0 h, flip_sg h]
  refine ⟨?_, rfl, rfl⟩
  split
  · rfl
  · cases sgB x <;> simp
theorem flip_scale {x s : Int} (h : In64u x) : scaleN (flip x) s = -scaleN x s ∧ scaleC (flip x) s = scaleC x s := by
  have e : scaleC (flip x) s = scaleC x s := by
    unfold scaleC sizeN
    rw [flip_class h, flip_mant h, flip_e0 h]
  refine ⟨?_, e⟩
  unfold scaleN sizeN
  rw [e, flip_sg h, flip_mant h, flip_e0 h]
  split
  · cases sgB x <;> simp
  · rfl
theorem flip_key {x : Int} (h : In64u x) : keyN (flip x) = -keyN x := by
  unfold keyN
  rw [flip_sg h]
  have e : flip x % 9223372036854775808 = x % 9223372036854775808 := by unfold flip; split <;> omega
  rw [e]
  cases sgB x <;> simp
theorem class_zero {x : Int} (h : In64u x) : classN x = 0 ↔ x % 9223372036854775808 = 0 := by
  have h1 := ex_bd x
  have h2 := fr_bd x
  have e : x % 9223372036854775808 = exN x * 4503599627370496 + frN x := by unfold exN frN; unfold In64u at h; omega
  unfold classN
  constructor
  · intro g
    split at g
    · omega
    · split at g
      · omega
      · split at g
        · omega
        · split at g <;> omega
  · intro g
    rw [if_neg (by omega), if_neg (by omega), if_neg (by omega), if_neg (by omega)]
/-- a value and its negative compare equal exactly if they are zero -/
theorem flip_cmp {x : Int} (h : In64u x) : cmpB x (flip x) = decide (classN x ≠ 4) ∧ (cmpB x (flip x) = true → ((cmpN x (flip x) = 0) ↔ classN x = 0)) := by
  have e : cmpB x (flip x) = decide (classN x ≠ 4) := by unfold cmpB; rw [flip_class h]; simp
  refine ⟨e, fun hh => ?_⟩
  unfold cmpN
  rw [if_pos hh, flip_key h, class_zero h]
  have hk : keyN x = 0 ↔ x % 9223372036854775808 = 0 := by unfold keyN; split <;> omega
  rw [← hk]
  split
  · omega
  · split <;> omega
end Go.Proofs.YtnkiieiebldpoaaDoor
