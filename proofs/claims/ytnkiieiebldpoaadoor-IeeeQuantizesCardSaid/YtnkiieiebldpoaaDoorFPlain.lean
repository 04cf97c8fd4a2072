/- The bits of a float64 value as integers: its class, its parts, its key in the order of values. No program is named. -/
import Derived.Test.YtnkiieiebldpoaaDoorBase
import Derived.Laws.Bits64b
import Derived.Laws.BitsLemmas
namespace Go.Proofs.YtnkiieiebldpoaaDoor
set_option linter.unusedVariables false
set_option linter.unusedSimpArgs false

/-- a number of 64 bits -/
def In64u (x : Int) : Prop := 0 ≤ x ∧ x < 18446744073709551616
def sgB (x : Int) : Bool := decide (9223372036854775808 ≤ x)
def exN (x : Int) : Int := x / 4503599627370496 % 2048
def frN (x : Int) : Int := x % 4503599627370496
def classN (x : Int) : Int := if exN x = 2047 ∧ frN x = 0 then 3 else if exN x = 2047 then 4 else if 0 < exN x then 2 else if 0 < frN x then 1 else 0
/-- the mantissa as it is stored, and its exponent -/
def mantN (x : Int) : Int := if 0 < exN x then frN x + 4503599627370496 else frN x
def e0N (x : Int) : Int := (if 0 < exN x then exN x else 1) - 1075
/-- how often 2 divides a number -/
def tzF : Nat → Nat → Nat
  | 0, _ => 0
  | n + 1, f => if f % 2 = 0 then tzF n (f / 2) + 1 else 0
def tz (f : Nat) : Nat := tzF 64 f
def partM (x : Int) : Int := if 2 < classN x then 0 else if sgB x = true then -(mantN x / 2 ^ tz (mantN x).toNat) else mantN x / 2 ^ tz (mantN x).toNat
def partE (x : Int) : Int := if 2 < classN x ∨ mantN x = 0 then 0 else e0N x + tz (mantN x).toNat
def partB (x : Int) : Bool := decide (classN x ≤ 2)
/-- a number that grows with the value -/
def keyN (x : Int) : Int := if sgB x = true then -(x % 9223372036854775808) else x % 9223372036854775808
def cmpB (a b : Int) : Bool := decide (classN a ≠ 4 ∧ classN b ≠ 4)
def cmpN (a b : Int) : Int := if cmpB a b = true then (if keyN a < keyN b then -1 else if keyN b < keyN a then 1 else 0) else 0

theorem ex_bd (x : Int) : 0 ≤ exN x ∧ exN x ≤ 2047 := by unfold exN; omega
theorem fr_bd (x : Int) : 0 ≤ frN x ∧ frN x < 4503599627370496 := by unfold frN; omega
theorem class_bd (x : Int) : 0 ≤ classN x ∧ classN x ≤ 4 := by
  unfold classN
  split
  · omega
  · split
    · omega
    · split
      · omega
      · split <;> omega
theorem mant_bd (x : Int) : 0 ≤ mantN x ∧ mantN x < 9007199254740992 := by
  have := fr_bd x
  unfold mantN; split <;> omega
theorem e0_bd (x : Int) : -1074 ≤ e0N x ∧ e0N x ≤ 972 := by
  have := ex_bd x
  unfold e0N; split <;> omega
theorem class_fin {x : Int} : classN x ≤ 2 ↔ exN x ≠ 2047 := by
  unfold classN
  have := ex_bd x
  split
  · omega
  · split
    · omega
    · split
      · omega
      · split <;> omega
theorem and_mask {x : Int} (h : In64u x) (i : Nat) (hi : i ≤ 64) : bits .and .u64 x (2 ^ i - 1) = x % 2 ^ i :=
  bits_mask .u64 64 (by decide) (fun n h0 h1 => by rw [IntKind.wrap_u64]; omega) i hi x h.1 (by have := h.2; omega)
theorem and_exp {x : Int} (h : In64u x) : bits .and .u64 (x / 4503599627370496) 2047 = exN x := by
  have h' : In64u (x / 4503599627370496) := by unfold In64u at *; omega
  exact and_mask h' 11 (by decide)
theorem and_frac {x : Int} (h : In64u x) : bits .and .u64 x 4503599627370495 = frN x := and_mask h 52 (by decide)
theorem and_key {x : Int} (h : In64u x) : bits .and .u64 x 9223372036854775807 = x % 9223372036854775808 := and_mask h 63 (by decide)
theorem sign_eq {x : Int} (h : In64u x) : (x / 9223372036854775808 == 1) = sgB x := by
  unfold In64u at h
  unfold sgB
  rw [Bool.eq_iff_iff]; simp; omega

theorem tzF_odd : ∀ (n j f : Nat), f % 2 = 1 → j ≤ n → tzF n (f * 2 ^ j) = j
  | 0, j, f, hf, hj => by
    have : j = 0 := by omega
    subst this; rfl
  | n + 1, 0, f, hf, hj => by
    unfold tzF
    rw [if_neg (by simp; omega)]
  | n + 1, j + 1, f, hf, hj => by
    have e : f * 2 ^ (j + 1) = f * 2 ^ j * 2 := by rw [Nat.pow_succ, Nat.mul_assoc]
    unfold tzF
    rw [e, if_pos (by omega), Nat.mul_div_cancel _ (by omega), tzF_odd n j f hf (by omega)]
theorem tz_is {M f j : Nat} (hM : M < 18446744073709551616) (hf : f % 2 = 1) (h : f * 2 ^ j = M) : tz M = j ∧ M / 2 ^ j = f := by
  have hj : j ≤ 64 := by
    rcases Nat.lt_or_ge 64 j with hj | hj
    · exfalso
      have h1 : 2 ^ 64 ≤ 2 ^ j := Nat.pow_le_pow_right (by decide) (by omega)
      have h2 : 1 * 2 ^ j ≤ f * 2 ^ j := Nat.mul_le_mul_right _ (by omega)
      have h3 : (2 : Nat) ^ 64 = 18446744073709551616 := by decide
      omega
    · exact hj
  subst h
  exact ⟨tzF_odd 64 j f hf hj, Nat.mul_div_cancel _ (Nat.two_pow_pos j)⟩
/-- where a number has been halved down to an odd one -/
theorem parts_at {x : Int} (hc : classN x ≤ 2) (hm : 0 < mantN x) {f j : Nat} (hf : f % 2 = 1) (h : f * 2 ^ j = (mantN x).toNat) : partE x = e0N x + j ∧ partM x = (if sgB x = true then -(f : Int) else f) := by
  have hb := mant_bd x
  obtain ⟨h1, h2⟩ := tz_is (M := (mantN x).toNat) (by omega) hf h
  have e : mantN x / 2 ^ tz (mantN x).toNat = f := by
    rw [h1]
    have : ((mantN x).toNat : Int) / ((2 ^ j : Nat) : Int) = f := by rw [← Int.natCast_ediv, h2]
    rw [Int.toNat_of_nonneg (by omega)] at this
    simpa using this
  unfold partE partM
  rw [if_neg (by omega), if_neg (by omega), e, h1]
  exact ⟨rfl, rfl⟩
theorem parts_zero {x : Int} (hc : classN x ≤ 2) (hm : mantN x = 0) : partM x = 0 ∧ partE x = 0 := by
  constructor
  · unfold partM; rw [if_neg (by omega), hm]; simp
  · unfold partE; rw [if_pos (.inr hm)]
theorem parts_no {x : Int} (hc : 2 < classN x) : partM x = 0 ∧ partE x = 0 ∧ partB x = false := by
  unfold partE partM partB
  rw [if_pos hc, if_pos (.inl hc)]
  exact ⟨rfl, rfl, by simp; omega⟩
theorem partB_t {x : Int} (hc : classN x ≤ 2) : partB x = true := by simp [partB, hc]
theorem key_bd (x : Int) : -9223372036854775808 < keyN x ∧ keyN x < 9223372036854775808 := by
  unfold keyN; split <;> omega
end Go.Proofs.YtnkiieiebldpoaaDoor
