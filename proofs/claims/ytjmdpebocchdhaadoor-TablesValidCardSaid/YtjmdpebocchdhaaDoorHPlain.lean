/- Round shifts, clamped numbers, weights and the bounds of weighted sums as integers. No program is named. -/
import Derived.Test.YtjmdpebocchdhaaDoorBase
namespace Go.Proofs.YtjmdpebocchdhaaDoor
set_option linter.unusedVariables false
set_option linter.unusedSimpArgs false

def accB (n : Int) : Bool := decide (-17592186044416 ≤ n ∧ n ≤ 17592186044416)
def shiftB (s : Int) : Bool := decide (0 ≤ s ∧ s ≤ 24)
theorem accB_t {n : Int} : accB n = true ↔ (-17592186044416 ≤ n ∧ n ≤ 17592186044416) := by simp [accB]
theorem accB_f {n : Int} : accB n = false ↔ ¬ (-17592186044416 ≤ n ∧ n ≤ 17592186044416) := by rw [← accB_t]; simp
theorem shiftB_t {n : Int} : shiftB n = true ↔ (0 ≤ n ∧ n ≤ 24) := by simp [shiftB]
theorem shiftB_f {n : Int} : shiftB n = false ↔ ¬ (0 ≤ n ∧ n ≤ 24) := by rw [← shiftB_t]; simp
/-- a round shift -/
def shiftN (a s : Int) : Int := if accB a = true ∧ shiftB s = true then (if s = 0 then a else (a + 2 ^ (s - 1).toNat) / 2 ^ s.toNat) else 0
def clampN (v m : Int) : Int := if v < 0 ∨ m < 0 then 0 else if m < v then m else v
def weightB (n : Int) : Bool := decide (-32767 ≤ n ∧ n ≤ 32767)
theorem weightB_t {n : Int} : weightB n = true ↔ (-32767 ≤ n ∧ n ≤ 32767) := by simp [weightB]
theorem weightB_f {n : Int} : weightB n = false ↔ ¬ (-32767 ≤ n ∧ n ≤ 32767) := by rw [← weightB_t]; simp
def weightsC (L : List Int) : Int := if L.length = 0 ∨ 81 < L.length then 9 else if L.all weightB = true then 0 else 10
/-- the least and the greatest of two products -/
def lowT (lo hi w : Int) : Int := min (w * lo) (w * hi)
def highT (lo hi w : Int) : Int := max (w * lo) (w * hi)
def lowN (L : List Int) (lo hi : Int) : Int := (L.map (lowT lo hi)).sum
def highN (L : List Int) (lo hi : Int) : Int := (L.map (highT lo hi)).sum
def rangeB (L : List Int) (lo hi : Int) : Bool := decide (weightsC L = 0 ∧ lo ≤ hi ∧ -68719476736 ≤ lo ∧ hi ≤ 68719476736)
def boundsB (L : List Int) (lo hi : Int) : Bool := decide (rangeB L lo hi = true ∧ accB (lowN L lo hi) = true ∧ accB (highN L lo hi) = true)
def boundsA (L : List Int) (lo hi : Int) : Int := if boundsB L lo hi = true then lowN L lo hi else 0
def boundsZ (L : List Int) (lo hi : Int) : Int := if boundsB L lo hi = true then highN L lo hi else 0

theorem pow_s {s : Int} (h : 0 ≤ s ∧ s ≤ 24) : (1 : Int) ≤ 2 ^ s.toNat ∧ (2 : Int) ^ s.toNat ≤ 16777216 := by
  have h1 : 2 ^ s.toNat ≤ 2 ^ 24 := Nat.pow_le_pow_right (by decide) (by omega)
  have h2 : (2 : Nat) ^ 24 = 16777216 := by decide
  have h3 := Nat.two_pow_pos s.toNat
  have c : ((2 : Int) ^ s.toNat) = ((2 ^ s.toNat : Nat) : Int) := by simp
  rw [c]; omega
theorem shift_no {a s : Int} (h : accB a = false ∨ shiftB s = false) : shiftN a s = 0 := by
  unfold shiftN
  rw [if_neg]
  rintro ⟨h1, h2⟩
  rcases h with h | h <;> simp_all
theorem shift_zero {a : Int} (h : accB a = true) : shiftN a 0 = a := by
  unfold shiftN
  rw [if_pos ⟨h, by simp [shiftB]⟩, if_pos rfl]
theorem shift_some {a s : Int} (h : accB a = true) (hs : shiftB s = true) (h0 : s ≠ 0) : shiftN a s = (a + 2 ^ (s - 1).toNat) / 2 ^ s.toNat := by
  unfold shiftN
  rw [if_pos ⟨h, hs⟩, if_neg h0]
/-- Go's quotient, put right: the floor -/
theorem quo_fix {n d : Int} (hd : 0 < d) : (n.tdiv d * d > n → n / d = n.tdiv d - 1) ∧ (¬ n.tdiv d * d > n → n / d = n.tdiv d) := by
  have h1 := Int.tmod_add_mul_tdiv n d
  have h2 : -d < n.tmod d ∧ n.tmod d < d := by
    have := Int.tmod_lt_of_pos n hd
    have := Int.lt_tmod_of_pos n hd
    exact ⟨by omega, by omega⟩
  have c : d * n.tdiv d = n.tdiv d * d := Int.mul_comm _ _
  rw [c] at h1
  constructor
  · intro h
    have e : n / d = n.tdiv d - 1 ∧ n % d = n.tmod d + d := (Int.ediv_emod_unique hd).2 ⟨by rw [Int.mul_sub, c]; omega, by omega, by omega⟩
    exact e.1
  · intro h
    have e : n / d = n.tdiv d ∧ n % d = n.tmod d := (Int.ediv_emod_unique hd).2 ⟨by rw [c]; omega, by omega, by omega⟩
    exact e.1
theorem shift_bd (a s : Int) : -17592186044416 ≤ shiftN a s ∧ shiftN a s ≤ 17592186044416 := by
  rcases h1 : accB a with _ | _
  · rw [shift_no (.inl h1)]; omega
  · rcases h2 : shiftB s with _ | _
    · rw [shift_no (.inr h2)]; omega
    · by_cases h0 : s = 0
      · subst h0; rw [shift_zero h1]; exact accB_t.1 h1
      · rw [shift_some h1 h2 h0]
        have ha := accB_t.1 h1
        have hs := shiftB_t.1 h2
        have hp := pow_s (s := s - 1) (by omega)
        have e : (2 : Int) ^ s.toNat = 2 * 2 ^ (s - 1).toNat := by
          rw [show s.toNat = (s - 1).toNat + 1 by omega, Int.pow_succ]; omega
        rw [e]
        generalize (2 : Int) ^ (s - 1).toNat = H at *
        refine ⟨(Int.le_ediv_iff_mul_le (by omega)).2 ?_, ?_⟩
        · have : -17592186044416 * (2 * H) ≤ -17592186044416 * 1 := by omega
          omega
        · have : (a + H) / (2 * H) < 17592186044416 + 1 := (Int.ediv_lt_iff_lt_mul (by omega)).2 (by omega)
          omega
end Go.Proofs.YtjmdpebocchdhaaDoor
