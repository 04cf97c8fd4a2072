/- Plain facts on intersections, hulls and outsets, in the form in which the walks meet them. -/
import Derived.Test.YtpbapamoihkaoaaRPlain
namespace Go.Proofs.Ytpbapamoihkaoaa
set_option linter.unusedVariables false

theorem rinter_t {a b c d e f g h p q r s : Int} (hv : validB a b c d = true) (hu : validB e f g h = true) (h0 : p = max a e) (h1 : q = max b f) (h2 : r = min c g) (h3 : s = min d h) (hk : p < r ∧ q < s) : Rc.mk p q r s = ⟨(interR a b c d e f g h).x0, (interR a b c d e f g h).y0, (interR a b c d e f g h).x1, (interR a b c d e f g h).y1⟩ := by
  unfold interR
  rw [if_pos ⟨hv, hu, by omega, by omega⟩, h0, h1, h2, h3]
theorem rinter_f {a b c d e f g h p q r s : Int} (h0 : p = max a e) (h1 : q = max b f) (h2 : r = min c g) (h3 : s = min d h) (hk : ¬ (p < r ∧ q < s)) : Rc.mk 0 0 0 0 = ⟨(interR a b c d e f g h).x0, (interR a b c d e f g h).y0, (interR a b c d e f g h).x1, (interR a b c d e f g h).y1⟩ := by
  unfold interR
  rw [if_neg (fun hh => hk (by have := hh.2.2; omega))]
theorem hull_u {a b c d e f g h : Int} (hv : validB a b c d = false ∨ validB e f g h = false) : Rc.mk 0 0 0 0 = ⟨(hullR a b c d e f g h).x0, (hullR a b c d e f g h).y0, (hullR a b c d e f g h).x1, (hullR a b c d e f g h).y1⟩ := by
  unfold hullR
  rw [if_neg]
  rintro ⟨h1, h2⟩
  rcases hv with h | h <;> simp_all
theorem hull_a {a b c d e f g h : Int} (hv : validB a b c d = true) (hu : validB e f g h = true) (he : emptyB a b c d = true) : Rc.mk e f g h = ⟨(hullR a b c d e f g h).x0, (hullR a b c d e f g h).y0, (hullR a b c d e f g h).x1, (hullR a b c d e f g h).y1⟩ := by
  unfold hullR
  rw [if_pos ⟨hv, hu⟩, if_pos he]
theorem hull_b {a b c d e f g h : Int} (hv : validB a b c d = true) (hu : validB e f g h = true) (he : emptyB a b c d = false) (hf : emptyB e f g h = true) : Rc.mk a b c d = ⟨(hullR a b c d e f g h).x0, (hullR a b c d e f g h).y0, (hullR a b c d e f g h).x1, (hullR a b c d e f g h).y1⟩ := by
  unfold hullR
  rw [if_pos ⟨hv, hu⟩, if_neg (by simp [he]), if_pos hf]
theorem hull_k {a b c d e f g h p q r s : Int} (hv : validB a b c d = true) (hu : validB e f g h = true) (he : emptyB a b c d = false) (hf : emptyB e f g h = false) (h0 : p = min a e) (h1 : q = min b f) (h2 : r = max c g) (h3 : s = max d h) : Rc.mk p q r s = ⟨(hullR a b c d e f g h).x0, (hullR a b c d e f g h).y0, (hullR a b c d e f g h).x1, (hullR a b c d e f g h).y1⟩ := by
  unfold hullR
  rw [if_pos ⟨hv, hu⟩, if_neg (by simp [he]), if_neg (by simp [hf]), h0, h1, h2, h3]
/-- the four numbers of an outset are in their range -/
def sideB (l t r u : Int) : Bool := decide ((0 ≤ l ∧ l ≤ 1048576) ∧ (0 ≤ t ∧ t ≤ 1048576) ∧ (0 ≤ r ∧ r ≤ 1048576) ∧ (0 ≤ u ∧ u ≤ 1048576))
theorem sideB_t {l t r u : Int} : sideB l t r u = true ↔ ((0 ≤ l ∧ l ≤ 1048576) ∧ (0 ≤ t ∧ t ≤ 1048576) ∧ (0 ≤ r ∧ r ≤ 1048576) ∧ (0 ≤ u ∧ u ≤ 1048576)) := by simp [sideB]
theorem sideB_f {l t r u : Int} : sideB l t r u = false ↔ ¬ ((0 ≤ l ∧ l ≤ 1048576) ∧ (0 ≤ t ∧ t ≤ 1048576) ∧ (0 ≤ r ∧ r ≤ 1048576) ∧ (0 ≤ u ∧ u ≤ 1048576)) := by rw [← sideB_t]; simp
theorem out_z {a b c d l t r u : Int} (h : fullB a b c d = false ∨ sideB l t r u = false) : Rc.mk 0 0 0 0 = ⟨(outR a b c d l t r u).x0, (outR a b c d l t r u).y0, (outR a b c d l t r u).x1, (outR a b c d l t r u).y1⟩ := by
  unfold outR
  rw [if_neg]
  rintro ⟨h1, h2, h3, h4, h5, _⟩
  rcases h with h | h
  · simp_all
  · rw [sideB_f] at h; exact h ⟨h2, h3, h4, h5⟩
theorem out_t {a b c d l t r u : Int} (h : fullB a b c d = true) (hs : sideB l t r u = true) (hk : (!validB (a - l) (b - t) (c + r) (d + u)) = false) : Rc.mk (a - l) (b - t) (c + r) (d + u) = ⟨(outR a b c d l t r u).x0, (outR a b c d l t r u).y0, (outR a b c d l t r u).x1, (outR a b c d l t r u).y1⟩ := by
  rw [Bool.not_eq_false'] at hk
  obtain ⟨h2, h3, h4, h5⟩ := sideB_t.1 hs
  unfold outR
  rw [if_pos ⟨h, h2, h3, h4, h5, hk⟩]
theorem out_f {a b c d l t r u : Int} (hk : (!validB (a - l) (b - t) (c + r) (d + u)) = true) : Rc.mk 0 0 0 0 = ⟨(outR a b c d l t r u).x0, (outR a b c d l t r u).y0, (outR a b c d l t r u).x1, (outR a b c d l t r u).y1⟩ := by
  rw [Bool.not_eq_true'] at hk
  unfold outR
  rw [if_neg]
  rintro ⟨_, _, _, _, _, h6⟩
  simp_all
end Go.Proofs.Ytpbapamoihkaoaa
