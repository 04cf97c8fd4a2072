/- The contract of Range of package border: its three results are the bounds of the range, for all integers. -/
import Derived.Test.YtpmajophkhihlaaBRange
import Derived.OwnWalk
namespace Go.Proofs.Ytpmajophkhihlaa
open Go.ChangeShapes Go.WideShapes Go.ChangeAt Go.RowKit
set_option linter.unusedVariables false
set_option linter.unusedSimpArgs false

theorem range_far {a b n p : Int} (h : ¬ (InC a ∧ InC b)) : RangeIs a b n p 0 0 false := .inr ⟨rfl, rfl, rfl, .inl h⟩
theorem range_void {a b n p : Int} (h : b ≤ a) : RangeIs a b n p 0 0 false := .inr ⟨rfl, rfl, rfl, .inr fun i h1 h2 => by omega⟩
theorem range_len {a b n p : Int} (h : n < 1 ∨ 128 < n) : RangeIs a b n p 0 0 false := .inr ⟨rfl, rfl, rfl, .inr fun i _ _ => idx_len h⟩
theorem range_pol {a b n p : Int} (h : p < 0 ∨ 3 < p) : RangeIs a b n p 0 0 false := .inr ⟨rfl, rfl, rfl, .inr fun i _ _ => idx_pol h⟩
theorem range_clamp {a b n : Int} (ha : InC a) (hb : InC b) (hab : a < b) (n1 : 1 ≤ n) (n2 : n ≤ 128) : RangeIs a b n 0 (idxN a n 0) (idxN (b - 1) n 0) true := by
  rw [(idx_val (idx_clamp (i := a) n1 n2)).1, (idx_val (idx_clamp (i := b - 1) n1 n2)).1]
  refine .inl ⟨rfl, ha, hb, ⟨a, by omega, hab, idx_clamp n1 n2⟩, ⟨b - 1, by omega, by omega, idx_clamp n1 n2⟩, fun i k h1 h2 h3 => ?_⟩
  rw [idx_clamp n1 n2, Option.some.injEq] at h3
  omega
theorem spans_period {a b n p lo hi : Int} (hn : 1 ≤ n) (hp : p = 1 ∨ p = 2) (h : Spans a (min b (a + 2 * n)) n p lo hi) : Spans a b n p lo hi := by
  by_cases g : b ≤ a + 2 * n
  · rw [show min b (a + 2 * n) = b by omega] at h; exact h
  · rw [show min b (a + 2 * n) = a + 2 * n by omega] at h
    rcases scan_period (b := b) (f := true) hn hp (by omega) (.inl ⟨rfl, h⟩) with ⟨_, hs⟩ | ⟨hf, _⟩
    · exact hs
    · cases hf
theorem range_const {a b n : Int} (ha : InC a) (hb : InC b) (n1 : 1 ≤ n) (n2 : n ≤ 128) (h : max a 0 < min b n) : RangeIs a b n 3 (max a 0) (min b n - 1) true := by
  refine .inl ⟨rfl, ha, hb, ⟨max a 0, by omega, by omega, idx_const n1 n2 (by omega) (by omega)⟩, ⟨min b n - 1, by omega, by omega, idx_const n1 n2 (by omega) (by omega)⟩, fun i k h1 h2 h3 => ?_⟩
  by_cases g : 0 ≤ i ∧ i < n
  · rw [idx_const n1 n2 g.1 g.2, Option.some.injEq] at h3; omega
  · rw [idx_out g] at h3; cases h3
theorem range_off {a b n : Int} (h : min b n ≤ max a 0) : RangeIs a b n 3 0 0 false := .inr ⟨rfl, rfl, rfl, .inr fun i h1 h2 => idx_out (by omega)⟩
/-- the three results of a range came back, and nothing changed -/
def RangePost (a b n p : Int) (w : World) (e : Ending) (w' : World) : Prop := ∃ (lo hi : Int) (ok : Bool), e = .returned (.tuple #[.int .i64 lo, .int .i64 hi, .bool ok]) ∧ RangeIs a b n p lo hi ok ∧ w = w'
section
variable (a b n p : Int) (w : World)
end
end Go.Proofs.Ytpmajophkhihlaa
