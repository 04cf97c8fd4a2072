/- Plain facts of the laws of layer 5: numbers of tiles to the right and below; the areas of the tiles; the tiles that hold a point. No program is named. -/
import Derived.Test.YtpbapamoihkaoaaGTouchPlain
namespace Go.Proofs.Ytpbapamoihkaoaa
set_option linter.unusedVariables false
set_option linter.unusedSimpArgs false

theorem fine_of {a b c d : Int} (ha : 1 ≤ a ∧ a ≤ 128) (hb : 1 ≤ b ∧ b ≤ 128) (hc : 1 ≤ c ∧ c ≤ 64) (hd : 1 ≤ d ∧ d ≤ 64) : fineB a b c d = true := fineB_t.2 (by omega)
/-- two points beside each other and two below each other: the numbers of their tiles -/
theorem order_names {a b c d u v X Y : Int} (ha : 1 ≤ a ∧ a ≤ 128) (hb : 1 ≤ b ∧ b ≤ 128) (hc : 1 ≤ c ∧ c ≤ 64) (hd : 1 ≤ d ∧ d ≤ 64) (hu : 0 ≤ u ∧ u ≤ X ∧ X < a) (hv : 0 ≤ v ∧ v ≤ Y ∧ Y < b) :
    ∃ C R n p q A B : Int, colN a b c d = C ∧ rowN a b c d = R ∧ ofN a b c d u v = n ∧ ofN a b c d X v = p ∧ ofN a b c d u Y = q ∧ ofB a b c d u v = true ∧ ofB a b c d X v = true ∧ ofB a b c d u Y = true ∧ (0 ≤ n ∧ n ≤ p ∧ p ≤ 16384) ∧ p - n < C ∧ (n ≤ q ∧ q ≤ 16384) ∧ (1 ≤ C ∧ C ≤ 128) ∧ (q - n).tmod C = 0 ∧ v.tdiv d = A ∧ Y.tdiv d = B ∧ (0 ≤ A ∧ A ≤ 128) ∧ (0 ≤ B ∧ B ≤ 128) ∧ ((q = n ∧ A = B) ∨ (¬ q = n ∧ ¬ A = B)) := by
  have hf := fine_of ha hb hc hd
  have o1 : ofB a b c d u v = true := ofB_t.2 ⟨hf, by omega⟩
  have o2 : ofB a b c d X v = true := ofB_t.2 ⟨hf, by omega⟩
  have o3 : ofB a b c d u Y = true := ofB_t.2 ⟨hf, by omega⟩
  have b1 := of_bd o1
  have b2 := of_bd o2
  have b3 := of_bd o3
  have hcr := cr_bd a b c d
  have hc1 := (counts hf).1
  have hr1 := (counts hf).2
  have e1 := of_yes o1
  have e2 := of_yes o2
  have e3 := of_yes o3
  have m1 : u / c ≤ X / c := Int.ediv_le_ediv (by omega) (by omega)
  have m2 : v / d ≤ Y / d := Int.ediv_le_ediv (by omega) (by omega)
  have t1 : v.tdiv d = v / d := Int.tdiv_eq_ediv_of_nonneg (by omega)
  have t2 : Y.tdiv d = Y / d := Int.tdiv_eq_ediv_of_nonneg (by omega)
  have m3 : v / d * colN a b c d ≤ Y / d * colN a b c d := Int.mul_le_mul_of_nonneg_right m2 (by omega)
  have e4 : ofN a b c d u Y - ofN a b c d u v = (Y / d - v / d) * colN a b c d := by rw [e1, e3, Int.sub_mul]; omega
  have e5 : (ofN a b c d u Y - ofN a b c d u v).tmod (colN a b c d) = 0 := by
    rw [Int.tmod_eq_emod_of_nonneg (by omega), e4]; exact Int.mul_emod_left _ _
  refine ⟨_, _, _, _, _, _, _, rfl, rfl, rfl, rfl, rfl, o1, o2, o3, by omega, by omega, by omega, by omega, e5, t1, t2, by omega, by omega, ?_⟩
  by_cases hq : v / d = Y / d
  · left; refine ⟨?_, hq⟩
    rw [e1, e3, hq]
  · right; refine ⟨fun h => hq ?_, hq⟩
    have h0 : (Y / d - v / d) * colN a b c d = 0 := by rw [← e4]; omega
    rcases Int.mul_eq_zero.1 h0 with h | h <;> omega
end Go.Proofs.Ytpbapamoihkaoaa
