/- Plain facts on integers: what Go's remainder and quotient are in Euclid's form, and a closed form of checked products, sums, quotients and multiples. -/
import Derived.Lib.Hide
namespace Go.Proofs.Ytigenddmphfjlaa

theorem tmod_bd (v n : Int) (h0 : 0 < n) : -n < v.tmod n ∧ v.tmod n < n := by
  rcases Int.lt_or_le v 0 with h | h
  · have e : v.tmod n = -((-v).tmod n) := by rw [Int.neg_tmod]; simp
    have hx : (-v).tmod n = (-v) % n := Int.tmod_eq_emod_of_nonneg (by omega)
    have := Int.emod_nonneg (-v) (show n ≠ 0 by omega)
    have := Int.emod_lt_of_pos (-v) h0
    omega
  · have hx : v.tmod n = v % n := Int.tmod_eq_emod_of_nonneg h
    have := Int.emod_nonneg v (show n ≠ 0 by omega)
    have := Int.emod_lt_of_pos v h0
    omega
theorem emod_of_neg (v n : Int) (h0 : 0 < n) (h : v.tmod n < 0) : v.tmod n + n = v % n := by
  have hb := tmod_bd v n h0
  have e : (v.tmod n) % n = v % n := by
    have h1 := Int.tmod_add_mul_tdiv v n
    conv => rhs; rw [← h1]
    exact (Int.add_mul_emod_self_left _ _ _).symm
  rw [← e, ← Int.add_emod_right]
  exact (Int.emod_eq_of_lt (by omega) (by omega)).symm
theorem emod_of_pos (v n : Int) (h0 : 0 < n) (h : 0 ≤ v.tmod n) : v.tmod n = v % n := by
  have hb := tmod_bd v n h0
  have e : (v.tmod n) % n = v % n := by
    have h1 := Int.tmod_add_mul_tdiv v n
    conv => rhs; rw [← h1]
    exact (Int.add_mul_emod_self_left _ _ _).symm
  rw [← e]
  exact (Int.emod_eq_of_lt (by omega) (by omega)).symm

/-- the product is accepted -/
def mulB (a b l : Int) : Bool := decide (0 ≤ a ∧ 0 ≤ b ∧ 0 ≤ l ∧ a * b ≤ l)
/-- the number that goes with it -/
def mulN (a b l : Int) : Int := bif mulB a b l then a * b else 0
/-- a quotient rounded up -/
def ceilN (a b : Int) : Int := if a < 0 ∨ b < 1 then 0 else if 0 < a % b then a / b + 1 else a / b
/-- the multiple is accepted -/
def alignB (n k l : Int) : Bool := if n < 0 ∨ k < 1 then false else mulB (ceilN n k) k l
/-- the number that goes with it -/
def alignN (n k l : Int) : Int := if n < 0 ∨ k < 1 then 0 else mulN (ceilN n k) k l
/-- the sum of a list, from a number that has been reached, as far as it is accepted -/
def sumFrom (l : Int) : Int → List Int → Option Int
  | s, [] => some s
  | s, n :: r => if n < 0 ∨ n > l - s then none else sumFrom l (s + n) r
def sumO (xs : List Int) (l : Int) : Option Int := if l < 0 then none else sumFrom l 0 xs
def sumN (xs : List Int) (l : Int) : Int := (sumO xs l).getD 0
def sumB (xs : List Int) (l : Int) : Bool := (sumO xs l).isSome

theorem mul_le_of_div (a b l : Int) (hb : 0 < b) : a ≤ l / b ↔ a * b ≤ l := Int.le_ediv_iff_mul_le hb
theorem mulB_yes {a b l : Int} (ha : 0 ≤ a) (hb : 0 ≤ b) (hl : 0 ≤ l) (h : a * b ≤ l) : mulB a b l = true := by simp [mulB, *]
theorem mulN_yes {a b l : Int} (h : mulB a b l = true) : mulN a b l = a * b := by simp [mulN, h]
theorem mulN_no {a b l : Int} (h : mulB a b l = false) : mulN a b l = 0 := by simp [mulN, h]
theorem mulB_neg {a b l : Int} (h : a < 0 ∨ b < 0 ∨ l < 0) : mulB a b l = false := by simp [mulB]; omega
theorem mulB_over {a b l : Int} (hb : 0 < b) (h : l / b < a) : mulB a b l = false := by
  have : ¬ a * b ≤ l := fun k => by have := (mul_le_of_div a b l hb).mpr k; omega
  simp [mulB]; omega
theorem mulN_bd (a b l : Int) (hl : l ≤ 9223372036854775807) : 0 ≤ mulN a b l ∧ mulN a b l ≤ 9223372036854775807 := by
  unfold mulN
  cases h : mulB a b l
  · simp
  · simp only [cond_true]
    simp [mulB] at h
    have := Int.mul_nonneg h.1 h.2.1
    omega
theorem ceilN_bd (a b : Int) (ha : a ≤ 9223372036854775807) : 0 ≤ ceilN a b ∧ ceilN a b ≤ 9223372036854775807 := by
  unfold ceilN
  split
  · omega
  · rename_i h
    have h1 : 0 ≤ a / b := Int.ediv_nonneg (by omega) (by omega)
    have h2 : a / b ≤ a := Int.ediv_le_self _ (by omega)
    split
    · rename_i hr
      by_cases hb : b = 1
      · subst hb; omega
      · have h3 : a / b * b ≤ a := Int.ediv_mul_le _ (by omega)
        have h4 : a / b * 2 ≤ a / b * b := Int.mul_le_mul_of_nonneg_left (by omega) h1
        omega
    · omega

theorem mul_no {a b l : Int} (h : a < 0 ∨ b < 0 ∨ l < 0 ∨ (0 < b ∧ l / b < a)) : 0 = mulN a b l ∧ false = mulB a b l := by
  have e : mulB a b l = false := by
    rcases h with h | h | h | h
    · exact mulB_neg (.inl h)
    · exact mulB_neg (.inr (.inl h))
    · exact mulB_neg (.inr (.inr h))
    · exact mulB_over h.1 h.2
  exact ⟨(mulN_no e).symm, e.symm⟩
theorem mul_ok {a b l : Int} (ha : 0 ≤ a) (hb : 0 ≤ b) (hl : 0 ≤ l) (h : b ≤ 0 ∨ a ≤ l / b) : a * b = mulN a b l ∧ true = mulB a b l := by
  have e : mulB a b l = true := by
    refine mulB_yes ha hb hl ?_
    rcases h with h | h
    · have : b = 0 := by omega
      subst this; simpa using hl
    · by_cases hb0 : b = 0
      · subst hb0; simpa using hl
      · exact (mul_le_of_div a b l (by omega)).mp h
  exact ⟨(mulN_yes e).symm, e.symm⟩
theorem mul_fits {a b l : Int} (ha : 0 ≤ a) (hb : 0 ≤ b) (hl : 0 ≤ l) (hl1 : l ≤ 9223372036854775807) (h : b ≤ 0 ∨ a ≤ l / b) : 0 ≤ a * b ∧ a * b ≤ 9223372036854775807 := by
  have e := mul_ok ha hb hl h
  rw [e.1]; exact mulN_bd a b l hl1
theorem align_no {n k l : Int} (h : n < 0 ∨ k < 1) : 0 = alignN n k l ∧ false = alignB n k l := by
  simp [alignN, alignB, h]
theorem align_ok {n k l : Int} (h0 : 0 ≤ n) (h1 : 1 ≤ k) : mulN (ceilN n k) k l = alignN n k l ∧ mulB (ceilN n k) k l = alignB n k l := by
  have h : ¬ (n < 0 ∨ k < 1) := by omega
  simp [alignN, alignB, h]
theorem ceil_no {a b : Int} (h : a < 0 ∨ b < 1) : 0 = ceilN a b := by simp [ceilN, h]
theorem ceil_up {a b : Int} (h0 : 0 ≤ a) (h1 : 1 ≤ b) (h : 0 < a % b) : a / b + 1 = ceilN a b := by
  have g : ¬ (a < 0 ∨ b < 1) := by omega
  simp [ceilN, g, h]
theorem ceil_at {a b : Int} (h0 : 0 ≤ a) (h1 : 1 ≤ b) (h : a % b ≤ 0) : a / b = ceilN a b := by
  have g : ¬ (a < 0 ∨ b < 1) := by omega
  have g' : ¬ 0 < a % b := by omega
  simp [ceilN, g, g']

theorem sumFrom_step (xs : List Int) (l s : Int) (k : Nat) (h : k < xs.length) (h0 : ¬ (xs.getD k 0 < 0 ∨ xs.getD k 0 > l - s)) : sumFrom l s (xs.drop k) = sumFrom l (s + xs.getD k 0) (xs.drop (k + 1)) := by
  have e : xs.getD k 0 = xs[k] := by simp [List.getD_eq_getElem?_getD, h]
  rw [e] at h0
  rw [List.drop_eq_getElem_cons h, e]
  simp only [sumFrom]
  rw [if_neg h0]
theorem sumFrom_stop (xs : List Int) (l s : Int) (k : Nat) (h : k < xs.length) (h0 : xs.getD k 0 < 0 ∨ xs.getD k 0 > l - s) : sumFrom l s (xs.drop k) = none := by
  have e : xs.getD k 0 = xs[k] := by simp [List.getD_eq_getElem?_getD, h]
  rw [e] at h0
  rw [List.drop_eq_getElem_cons h]
  simp only [sumFrom]
  rw [if_pos h0]
theorem sumFrom_end (xs : List Int) (l s : Int) (k : Nat) (h : xs.length ≤ k) : sumFrom l s (xs.drop k) = some s := by
  rw [List.drop_eq_nil_of_le h]; rfl
theorem sum_none {xs : List Int} {l : Int} (h : sumO xs l = none) : 0 = sumN xs l ∧ false = sumB xs l := by simp [sumN, sumB, h]
theorem sum_some {xs : List Int} {l s : Int} (h : sumO xs l = some s) : s = sumN xs l ∧ true = sumB xs l := by simp [sumN, sumB, h]
theorem sumO_neg {xs : List Int} {l : Int} (h : l < 0) : sumO xs l = none := by simp [sumO, h]
theorem sumO_pos {xs : List Int} {l : Int} (h : 0 ≤ l) : sumO xs l = sumFrom l 0 (xs.drop 0) := by
  have : ¬ l < 0 := by omega
  simp [sumO, this]

theorem ceil_mul {x y : Int} (h0 : 0 ≤ x) (h1 : 1 ≤ y) : x ≤ ceilN x y * y ∧ ceilN x y * y - x < y ∧ 0 ≤ ceilN x y ∧ (ceilN x y * y) % y = 0 := by
  have g : ¬ (x < 0 ∨ y < 1) := by omega
  have e := Int.emod_add_mul_ediv x y
  have r0 := Int.emod_nonneg x (show y ≠ 0 by omega)
  have r1 := Int.emod_lt_of_pos x (show 0 < y by omega)
  have q := Int.ediv_nonneg h0 (show 0 ≤ y by omega)
  have c : y * (x / y) = (x / y) * y := Int.mul_comm _ _
  refine ⟨?_, ?_, ?_, Int.mul_emod_left _ _⟩
  all_goals
    unfold ceilN
    rw [if_neg g]
    split
  · rw [Int.add_mul]; omega
  · omega
  · rw [Int.add_mul]; omega
  · omega
  · omega
  · omega
theorem align_good {x y l : Int} (h0 : 0 ≤ x) (h1 : 1 ≤ y) (hl : x + y ≤ l) : alignB x y l = true ∧ alignN x y l = ceilN x y * y := by
  have g : ¬ (x < 0 ∨ y < 1) := by omega
  have h := ceil_mul h0 h1
  have e : mulB (ceilN x y) y l = true := mulB_yes h.2.2.1 (by omega) (by omega) (by omega)
  simp [alignB, alignN, g, e, mulN_yes]

theorem mulB_comm (x y z : Int) : mulB y x z = mulB x y z := by
  unfold mulB
  rw [Int.mul_comm y x]
  congr 1
  apply propext
  constructor <;> rintro ⟨a, b, c⟩ <;> exact ⟨b, a, c⟩
theorem mulN_comm (x y z : Int) : mulN y x z = mulN x y z := by
  unfold mulN
  rw [mulB_comm, Int.mul_comm y x]
/-- all that is asked of two factors: the product, both ways; and where it is accepted, what divides it and what a greater limit says -/
theorem mul_two (x y z : Int) (hx : 0 ≤ x) (hy : 0 ≤ y) (hz : 0 ≤ z) : ∃ N, 0 ≤ N ∧ N ≤ z ∧ (mulB x y z = false → N = 0) ∧ mulN x y z = N ∧ mulN y x z = N ∧ mulB y x z = mulB x y z ∧
    (mulB x y z = true → ∀ r, 0 ≤ r → mulN x y (z + r) = N ∧ mulB x y (z + r) = true ∧ (0 < y → N / y = x) ∧ (0 < y → N % y = 0)) := by
  refine ⟨mulN x y z, ?_, ?_, fun h => mulN_no h, rfl, mulN_comm x y z, mulB_comm x y z, fun h r hr => ?_⟩
  · unfold mulN
    cases mulB x y z
    · simp
    · exact Int.mul_nonneg hx hy
  · unfold mulN
    cases h : mulB x y z
    · simpa using hz
    · simp [mulB] at h; simp; exact h.2.2.2
  · have h' := h
    simp [mulB] at h'
    have e : mulB x y (z + r) = true := mulB_yes hx hy (by omega) (by omega)
    refine ⟨by rw [mulN_yes h, mulN_yes e], e, fun hy0 => ?_, fun _ => ?_⟩
    · rw [mulN_yes h]; exact Int.mul_ediv_cancel _ (by omega)
    · rw [mulN_yes h]; exact Int.mul_emod_left _ _
theorem sum_two (x y l : Int) (hx : 0 ≤ x) (hy : 0 ≤ y) (hl : 0 ≤ l) (hxl : x ≤ l) :
    (sumB [x, y] l = true ∧ sumN [x, y] l = x + y ∧ x + y ≤ l) ∨ (sumB [x, y] l = false ∧ sumN [x, y] l = 0) := by
  have a : ¬ l < 0 := by omega
  have b : ¬ (x < 0 ∨ x > l - 0) := by omega
  by_cases h : x + y ≤ l
  · have c : ¬ (y < 0 ∨ y > l - (0 + x)) := by omega
    have e : sumO [x, y] l = some (0 + x + y) := by
      unfold sumO; rw [if_neg a]; simp only [sumFrom]; rw [if_neg b, if_neg c]
    exact .inl ⟨by simp [sumB, e], by simp [sumN, e], h⟩
  · have c : y < 0 ∨ y > l - (0 + x) := by omega
    have e : sumO [x, y] l = none := by
      unfold sumO; rw [if_neg a]; simp only [sumFrom]; rw [if_neg b, if_pos c]
    exact .inr ⟨by simp [sumB, e], by simp [sumN, e]⟩
end Go.Proofs.Ytigenddmphfjlaa
