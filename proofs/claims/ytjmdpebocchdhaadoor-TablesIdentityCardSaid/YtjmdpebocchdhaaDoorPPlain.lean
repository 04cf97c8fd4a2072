/- Planes as plain data: a size, a Max, a list of pixels. No program is named. -/
import Derived.Test.YtjmdpebocchdhaaDoorTape
namespace Go.Proofs.YtjmdpebocchdhaaDoor
open Go.ChangeShapes Go.WideShapes Go.ChangeAt Go.RowKit
set_option linter.unusedVariables false
set_option linter.unusedSimpArgs false

def sizeB (W H M : Int) : Bool := decide ((1 ≤ W ∧ W ≤ 128) ∧ (1 ≤ H ∧ H ≤ 128) ∧ W * H ≤ 4096 ∧ (1 ≤ M ∧ M ≤ 4294967296))
theorem sizeB_t {W H M : Int} : sizeB W H M = true ↔ ((1 ≤ W ∧ W ≤ 128) ∧ (1 ≤ H ∧ H ≤ 128) ∧ W * H ≤ 4096 ∧ (1 ≤ M ∧ M ≤ 4294967296)) := by simp [sizeB]
theorem sizeB_f {W H M : Int} : sizeB W H M = false ↔ ¬ ((1 ≤ W ∧ W ≤ 128) ∧ (1 ≤ H ∧ H ≤ 128) ∧ W * H ≤ 4096 ∧ (1 ≤ M ∧ M ≤ 4294967296)) := by simp only [sizeB, decide_eq_false_iff_not]
theorem prod_bd {W H : Int} (w1 : 1 ≤ W) (w2 : W ≤ 128) (h1 : 1 ≤ H) (h2 : H ≤ 128) : 1 ≤ W * H ∧ W * H ≤ 16384 := by
  constructor
  · have := Int.mul_le_mul w1 h1 (by omega) (by omega); omega
  · have := Int.mul_le_mul w2 h2 (by omega) (by omega); omega
/-- every pixel from 0 to the Max -/
def Pixs (M : Int) (L : List Int) (n : Nat) : Prop := ∀ k, k < n → 0 ≤ L.getD k 0 ∧ L.getD k 0 ≤ M
instance (M : Int) (L : List Int) (n : Nat) : Decidable (Pixs M L n) := by unfold Pixs; infer_instance
def planeB (W H M : Int) (L : List Int) : Bool := sizeB W H M && decide ((L.length : Int) = W * H ∧ Pixs M L L.length)
theorem planeB_t {W H M : Int} {L : List Int} : planeB W H M L = true ↔ (sizeB W H M = true ∧ (L.length : Int) = W * H ∧ Pixs M L L.length) := by simp [planeB]
theorem planeB_size {W H M : Int} {L : List Int} (h : sizeB W H M = false) : planeB W H M L = false := by simp [planeB, h]
theorem planeB_len {W H M : Int} {L : List Int} (h : ¬ (L.length : Int) = W * H) : planeB W H M L = false := by simp [planeB, h]
theorem planeB_pix {W H M : Int} {L : List Int} {k : Nat} (hk : k < L.length) (h : L.getD k 0 < 0 ∨ M < L.getD k 0) : planeB W H M L = false := by
  rcases hp : planeB W H M L with _ | _
  · rfl
  · have := (planeB_t.1 hp).2.2 k hk; omega
theorem pixs_step {M : Int} {L : List Int} {k : Nat} (h : Pixs M L k) (h0 : 0 ≤ L.getD k 0) (h1 : L.getD k 0 ≤ M) : Pixs M L (k + 1) := by
  intro j hj
  by_cases e : j = k
  · subst e; exact ⟨h0, h1⟩
  · exact h j (by omega)
theorem pixs_zero (M : Int) (L : List Int) : Pixs M L 0 := fun k hk => by omega
theorem planeB_all {W H M : Int} {L : List Int} (hs : sizeB W H M = true) (hl : (L.length : Int) = W * H) (hp : Pixs M L L.length) : planeB W H M L = true := planeB_t.2 ⟨hs, hl, hp⟩
theorem plane_len {W H M : Int} {L : List Int} (h : planeB W H M L = true) : L.length ≤ 4096 := by
  obtain ⟨hs, hl, _⟩ := planeB_t.1 h
  have := (sizeB_t.1 hs).2.2.1
  omega
end Go.Proofs.YtjmdpebocchdhaaDoor
