/- Bits of numbers of 64 bits: the sign alone, all but the sign, the lowest bit that is set, the lowest bits of a negative number. No program is named. -/
import Derived.Test.YtnkiieiebldpoaaDoorFScalePlain
import Derived.Lib.TrailingZeros
namespace Go.Proofs.YtnkiieiebldpoaaDoor
set_option linter.unusedVariables false
set_option linter.unusedSimpArgs false

theorem bv_u {x : Int} (h : In64u x) : (BitVec.ofInt 64 x).toNat = x.toNat := by
  obtain ⟨a, rfl⟩ := Int.eq_ofNat_of_zero_le h.1
  have ha : a < 18446744073709551616 := by have := h.2; omega
  rw [BitVec.ofInt_natCast, BitVec.toNat_ofNat]; exact Nat.mod_eq_of_lt (by simpa using ha)
theorem nat_and_sign (a : Nat) (ha : a < 18446744073709551616) : a &&& 9223372036854775808 = if 9223372036854775808 ≤ a then 9223372036854775808 else 0 := by
  have e : (9223372036854775808 : Nat) = 2 ^ 63 := by decide
  have key : a &&& 2 ^ 63 = if a.testBit 63 then 2 ^ 63 else 0 := by
    apply Nat.eq_of_testBit_eq
    intro j
    rw [Nat.testBit_and, Nat.testBit_two_pow]
    by_cases g : 63 = j
    · subst g; cases a.testBit 63 <;> simp only [Bool.false_and, Bool.true_and, if_true, if_false, Bool.false_eq_true, Nat.testBit_two_pow, Nat.zero_testBit, decide_true]
    · have g' : decide (63 = j) = false := by simp [g]
      rw [g', Bool.and_false]
      cases a.testBit 63 <;> simp only [if_true, if_false, Bool.false_eq_true, Nat.testBit_two_pow, Nat.zero_testBit, g']
  have hb : a.testBit 63 = decide (9223372036854775808 ≤ a) := by
    rw [Nat.testBit_eq_decide_div_mod_eq]
    congr 1
    rw [← e]
    apply propext
    omega
  rw [e, key, hb]
  simp
theorem and_sign {x : Int} (h : In64u x) : bits .and .u64 x 9223372036854775808 = if sgB x = true then 9223372036854775808 else 0 := by
  obtain ⟨a, rfl⟩ := Int.eq_ofNat_of_zero_le h.1
  have ha : a < 18446744073709551616 := by have := h.2; omega
  have := bits_and_u64_nat a 9223372036854775808 ha (by decide)
  have e2 : ((9223372036854775808 : Nat) : Int) = 9223372036854775808 := rfl
  rw [e2] at this
  rw [this, nat_and_sign a ha]
  unfold sgB
  by_cases g : 9223372036854775808 ≤ a
  · rw [if_pos g, if_pos (by simp; omega)]; rfl
  · rw [if_neg g, if_neg (by simp; omega)]; rfl
theorem and_sign_ne {x : Int} (h : In64u x) : (bits .and .u64 x 9223372036854775808 != 0) = sgB x := by
  rw [and_sign h]
  cases sgB x <;> simp
theorem and_not {x : Int} (h : In64u x) : bits .andNot .u64 x 9223372036854775808 = x % 9223372036854775808 := by
  have e1 := bv_u h
  have e2 : (~~~ (BitVec.ofInt 64 (9223372036854775808 : Int))).toNat = 9223372036854775807 := by decide
  show IntKind.u64.wrap ((BitVec.ofInt 64 x &&& ~~~ BitVec.ofInt 64 (9223372036854775808 : Int)).toNat : Int) = _
  rw [BitVec.toNat_and, e1, e2, IntKind.wrap_u64]
  have e3 : x.toNat &&& 9223372036854775807 = x.toNat % 9223372036854775808 := Nat.and_two_pow_sub_one_eq_mod x.toNat 63
  rw [e3]
  obtain ⟨h0, h1⟩ := h
  omega
/-- the lowest bit of a number that is set -/
theorem tz_lib {M : Nat} (h0 : M ≠ 0) (h : M < 18446744073709551616) : tz M = Lib.ctz 64 M ∧ tz M < 64 := by
  obtain ⟨m, hm, hk⟩ := Lib.ctzFrom_spec 64 M (by omega) (by simpa using h)
  have e : Lib.ctz 64 M = Lib.ctzFrom 64 M := by simp [Lib.ctz, h0]
  have h1 := (tz_is (M := M) (f := 2 * m + 1) (j := Lib.ctzFrom 64 M) h (by omega) (by rw [Nat.mul_comm]; exact hm.symm)).1
  rw [e, h1]; exact ⟨rfl, hk⟩
theorem low_bit {M : Nat} (h0 : M ≠ 0) (h : M < 18446744073709551616) : bits .and .u64 (M : Int) (18446744073709551616 - (M : Int)) = ((2 ^ tz M : Nat) : Int) := by
  have e1 : (18446744073709551616 - (M : Int)) = ((18446744073709551616 - M : Nat) : Int) := by omega
  rw [e1, bits_and_u64_nat M _ h (by omega)]
  have := (Lib.lowest_bit 64 M h0 (by simpa using h)).1
  have e2 : (2 : Nat) ^ 64 = 18446744073709551616 := by decide
  rw [e2] at this
  rw [this, (tz_lib h0 h).1]
/-- the table of the lowest bits -/
def tabZ : List Int := Lib.deBruijn64tab.map (fun (n : Nat) => Int.ofNat n)
theorem tab_len : tabZ.length = 64 := by decide
/-- where the table is looked up, and what stands there -/
theorem tab_at {k : Nat} (h : k < 64) : ∃ j : Nat, j < 64 ∧ 2 ^ k * 285870213051353865 % 18446744073709551616 / 288230376151711744 = j ∧ tabZ.getD j 0 = (k : Int) := by
  obtain ⟨j, ej⟩ : ∃ j, 2 ^ k * 285870213051353865 % 18446744073709551616 / 288230376151711744 = j := ⟨_, rfl⟩
  have hD := Lib.deBruijn64_at k h
  rw [ej] at hD
  obtain ⟨h1, h2⟩ := hD
  refine ⟨j, h1, ej, ?_⟩
  clear ej
  have hl : Lib.deBruijn64tab.length = 64 := by decide
  unfold tabZ
  generalize Lib.deBruijn64tab = T at *
  rw [List.getD_eq_getElem?_getD] at h2
  rw [List.getD_eq_getElem?_getD, List.getElem?_map]
  rw [List.getElem?_eq_getElem (by rw [hl]; exact h1)] at h2 ⊢
  simp only [Option.getD_some] at h2
  simp only [Option.map_some, Option.getD_some, h2]; rfl
/-- the lowest bits of a number, negative ones too -/
theorem mask_neg {m : Int} {k : Nat} (h0 : -9223372036854775808 ≤ m) (h1 : m ≤ 9223372036854775807) (hk : k ≤ 62) : bits .and .i64 m (2 ^ k - 1) = m % 2 ^ k := by
  have hp := Nat.two_pow_pos k
  have h62 : 2 ^ k ≤ 2 ^ 62 := Nat.pow_le_pow_right (by decide) hk
  have e62 : (2 : Nat) ^ 62 = 4611686018427387904 := by decide
  have c : ((2 : Int) ^ k) = ((2 ^ k : Nat) : Int) := by simp
  have e1 : (BitVec.ofInt 64 m).toNat = (m % 18446744073709551616).toNat := by rw [BitVec.toNat_ofInt]; rfl
  have e2 : (BitVec.ofInt 64 ((2 : Int) ^ k - 1)).toNat = 2 ^ k - 1 := by
    rw [c, BitVec.toNat_ofInt]
    omega
  show IntKind.i64.wrap ((BitVec.ofInt 64 m &&& BitVec.ofInt 64 ((2 : Int) ^ k - 1)).toNat : Int) = _
  rw [BitVec.toNat_and, e1, e2, Nat.and_two_pow_sub_one_eq_mod, IntKind.wrap_i64]
  have e3 : (((m % 18446744073709551616).toNat % 2 ^ k : Nat) : Int) = m % 2 ^ k := by
    rw [Int.natCast_emod, Int.toNat_of_nonneg (by omega), c]
    refine Int.emod_emod_of_dvd m ?_
    have : (18446744073709551616 : Int) = ((2 ^ 64 : Nat) : Int) := by decide
    rw [this]
    exact Int.natCast_dvd_natCast.2 (Nat.pow_dvd_pow 2 (by omega))
  rw [e3]
  have h2 : 0 ≤ m % 2 ^ k := Int.emod_nonneg _ (by rw [c]; omega)
  have h3 : m % 2 ^ k < 2 ^ k := Int.emod_lt_of_pos _ (by rw [c]; omega)
  rw [c] at h2 h3 ⊢
  omega
/-- a negative number rounded down, with what is left, stands for the nearest one by size -/
theorem down_neg {f k : Nat} (hk : 0 < k) (hf : 0 < f) : ∃ Q r : Nat, (-(f : Int)) / 2 ^ k = -(Q : Int) ∧ (-(f : Int)) % 2 ^ k = (r : Int) ∧ r < 2 ^ k ∧ Q ≤ f ∧
    ((2 ^ (k - 1) < r ∧ (rnd f k : Int) + 1 = Q) ∨ (r = 2 ^ (k - 1) ∧ Q % 2 = 1 ∧ (rnd f k : Int) + 1 = Q) ∨ (r = 2 ^ (k - 1) ∧ Q % 2 = 0 ∧ rnd f k = Q) ∨ (r < 2 ^ (k - 1) ∧ rnd f k = Q)) := by
  have hp := Nat.two_pow_pos k
  have h3 : 2 ^ k = 2 * 2 ^ (k - 1) := by rw [← Nat.pow_succ']; congr 1; omega
  have c : ((2 : Int) ^ k) = ((2 ^ k : Nat) : Int) := by simp
  have hpos := Nat.two_pow_pos (k - 1)
  have hd := Nat.div_add_mod f (2 ^ k)
  have hm := Nat.mod_lt f hp
  have hle : f / 2 ^ k ≤ f := Nat.div_le_self _ _
  rw [c]
  unfold rnd
  rw [h3] at hd hm hle ⊢
  generalize 2 ^ (k - 1) = H at *
  generalize hQ : f / (2 * H) = q at *
  generalize hR : f % (2 * H) = s at *
  by_cases g : s = 0
  · subst g
    refine ⟨q, 0, ?_, ?_, by omega, by omega, ?_⟩
    · have : -(f : Int) = -(q : Int) * ((2 * H : Nat) : Int) := by rw [Int.neg_mul, ← Int.natCast_mul, Nat.mul_comm q]; omega
      rw [this]; exact Int.mul_ediv_cancel _ (by omega)
    · have : -(f : Int) = -(q : Int) * ((2 * H : Nat) : Int) := by rw [Int.neg_mul, ← Int.natCast_mul, Nat.mul_comm q]; omega
      rw [this, Int.mul_emod_left]; rfl
    · right; right; right
      refine ⟨by omega, ?_⟩
      rw [if_neg (by omega)]
  · have e : -(f : Int) = ((2 * H - s : Nat) : Int) + (-((q : Int) + 1)) * ((2 * H : Nat) : Int) := by
      rw [Int.neg_mul, Int.add_mul, ← Int.natCast_mul, Nat.mul_comm q]; omega
    refine ⟨q + 1, 2 * H - s, ?_, ?_, by omega, ?_, ?_⟩
    · rw [e, Int.add_mul_ediv_right _ _ (by omega), Int.ediv_eq_zero_of_lt (by omega) (by omega)]; omega
    · rw [e, Int.add_mul_emod_self_right, Int.emod_eq_of_lt (by omega) (by omega)]
    · rcases Nat.eq_zero_or_pos q with e0 | e0
      · omega
      · have : q * 1 ≤ q * (2 * H) := Nat.mul_le_mul_left _ (by omega)
        rw [Nat.mul_comm q (2 * H)] at this
        omega
    · by_cases g1 : s < H
      · left; exact ⟨by omega, by rw [if_neg (by omega)]; omega⟩
      · by_cases g2 : s = H
        · by_cases g3 : q % 2 = 1
          · right; right; left
            exact ⟨by omega, by omega, by rw [if_pos (.inr ⟨by omega, g3⟩)]⟩
          · right; left
            exact ⟨by omega, by omega, by rw [if_neg (by omega)]; omega⟩
        · right; right; right
          exact ⟨by omega, by rw [if_pos (.inl (by omega))]⟩
end Go.Proofs.YtnkiieiebldpoaaDoor
