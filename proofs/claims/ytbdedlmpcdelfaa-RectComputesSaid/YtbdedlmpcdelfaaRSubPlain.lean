/- The parts of a difference of two rectangles, as a list. -/
import Derived.Test.YtbdedlmpcdelfaaROut
namespace Go.Proofs.Ytbdedlmpcdelfaa
open Go.ChangeShapes Go.WideShapes Go.ChangeAt Go.RowKit
set_option linter.unusedVariables false

/-- the four cells of each rectangle, one after another -/
def flat (L : List Rc) : List Value := L.flatMap fun r => [.int .i64 r.x0, .int .i64 r.y0, .int .i64 r.x1, .int .i64 r.y1]
theorem flat_len (L : List Rc) : (flat L).length = L.length * 4 := by
  induction L with
  | nil => rfl
  | cons r L ih => simp only [flat, List.flatMap_cons, List.length_append] at ih ⊢; rw [ih]; simp; omega
theorem flat_add (L M : List Rc) : flat (L ++ M) = flat L ++ flat M := by simp [flat]
theorem flat_one (r : Rc) : flat [r] = [.int .i64 r.x0, .int .i64 r.y0, .int .i64 r.x1, .int .i64 r.y1] := rfl
/-- a part that has points -/
def posB (r : Rc) : Bool := decide (r.x0 < r.x1 ∧ r.y0 < r.y1)
/-- the part number k of what is around m -/
def partK (a b c d : Int) (m : Rc) : Nat → Rc
  | 0 => ⟨a, b, c, m.y0⟩
  | 1 => ⟨a, m.y0, m.x0, m.y1⟩
  | 2 => ⟨m.x1, m.y0, c, m.y1⟩
  | _ => ⟨a, m.y1, c, d⟩
/-- the first n parts, those with points -/
def partsN (a b c d : Int) (m : Rc) (n : Nat) : List Rc := ((List.range n).map (partK a b c d m)).filter posB
theorem parts_z (a b c d : Int) (m : Rc) : partsN a b c d m 0 = [] := rfl
theorem parts_t {a b c d : Int} {m : Rc} {n : Nat} (h : posB (partK a b c d m n) = true) : partsN a b c d m (n + 1) = partsN a b c d m n ++ [partK a b c d m n] := by
  simp [partsN, List.range_succ, h]
theorem parts_f {a b c d : Int} {m : Rc} {n : Nat} (h : posB (partK a b c d m n) = false) : partsN a b c d m (n + 1) = partsN a b c d m n := by
  simp [partsN, List.range_succ, h]
theorem parts_le (a b c d : Int) (m : Rc) (n : Nat) : (partsN a b c d m n).length ≤ n := by
  unfold partsN
  exact Nat.le_trans (List.length_filter_le _ _) (by simp)
/-- the difference -/
def subL (a b c d e f g h : Int) : List Rc :=
  if fullB a b c d = true ∧ validB e f g h = true then
    if interR a b c d e f g h = ⟨0, 0, 0, 0⟩ then [⟨a, b, c, d⟩] else partsN a b c d (interR a b c d e f g h) 4
  else []
theorem sub_u {a b c d e f g h : Int} (hk : fullB a b c d = false ∨ validB e f g h = false) : subL a b c d e f g h = [] := by
  unfold subL
  rw [if_neg]
  rintro ⟨h1, h2⟩
  rcases hk with h | h <;> simp_all
theorem sub_a {a b c d e f g h p q r s : Int} (hf : fullB a b c d = true) (hu : validB e f g h = true) (hi : interR a b c d e f g h = ⟨p, q, r, s⟩) (he : emptyB p q r s = true) : subL a b c d e f g h = [⟨a, b, c, d⟩] := by
  obtain ⟨rfl, rfl, rfl, rfl⟩ := emptyB_t.1 he
  unfold subL
  rw [if_pos ⟨hf, hu⟩, if_pos hi]
theorem sub_p {a b c d e f g h p q r s : Int} (hf : fullB a b c d = true) (hu : validB e f g h = true) (hi : interR a b c d e f g h = ⟨p, q, r, s⟩) (he : emptyB p q r s = false) : subL a b c d e f g h = partsN a b c d ⟨p, q, r, s⟩ 4 := by
  have hn := emptyB_f.1 he
  unfold subL
  rw [if_pos ⟨hf, hu⟩, hi, if_neg (fun hh => hn (by simpa using hh))]
/-- an intersection that is not empty lies within both -/
theorem inter_in {a b c d e f g h p q r s : Int} (hi : interR a b c d e f g h = ⟨p, q, r, s⟩) (he : emptyB p q r s = false) : a ≤ p ∧ p < r ∧ r ≤ c ∧ b ≤ q ∧ q < s ∧ s ≤ d ∧ e ≤ p ∧ r ≤ g ∧ f ≤ q ∧ s ≤ h := by
  have hn := emptyB_f.1 he
  unfold interR at hi
  split at hi <;> rw [Rc.mk.injEq] at hi
  · rename_i hk
    have := hk.2.2
    omega
  · omega
/-- a part's area tells whether it has points -/
theorem part_area {a b c d e f g h p q r s : Int} (hf : fullB a b c d = true) (hi : interR a b c d e f g h = ⟨p, q, r, s⟩) (he : emptyB p q r s = false) (k : Nat) (x0 y0 x1 y1 : Int) (hp : partK a b c d ⟨p, q, r, s⟩ k = ⟨x0, y0, x1, y1⟩) :
    decide (0 < areaN x0 y0 x1 y1) = posB ⟨x0, y0, x1, y1⟩ ∧ (-1048576 ≤ x0 ∧ x0 ≤ 1048576) ∧ (-1048576 ≤ y0 ∧ y0 ≤ 1048576) ∧ (-1048576 ≤ x1 ∧ x1 ≤ 1048576) ∧ (-1048576 ≤ y1 ∧ y1 ≤ 1048576) := by
  have h1 := inter_in hi he
  have h2 := full_bd hf
  have hb : (-1048576 ≤ x0 ∧ x0 ≤ 1048576) ∧ (-1048576 ≤ y0 ∧ y0 ≤ 1048576) ∧ (-1048576 ≤ x1 ∧ x1 ≤ 1048576) ∧ (-1048576 ≤ y1 ∧ y1 ≤ 1048576) := by
    unfold partK at hp
    split at hp <;> rw [Rc.mk.injEq] at hp <;> dsimp only at hp <;> omega
  refine ⟨?_, hb⟩
  rw [Bool.eq_iff_iff, decide_eq_true_eq, posB, decide_eq_true_eq]
  unfold areaN
  show _ ↔ x0 < x1 ∧ y0 < y1
  constructor
  · intro h
    split at h
    · rename_i hv
      rw [validB_t] at hv
      rcases hv with ⟨rfl, rfl, rfl, rfl⟩ | hv
      · simp at h
      · omega
    · omega
  · rintro ⟨k1, k2⟩
    rw [if_pos (validB_t.2 (by omega))]
    exact Int.mul_pos (by omega) (by omega)
end Go.Proofs.Ytbdedlmpcdelfaa
