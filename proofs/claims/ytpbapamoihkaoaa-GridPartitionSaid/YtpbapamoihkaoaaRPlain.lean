/- Rectangles as four integers: which are valid, and what each function of two of them gives. Plain integers; no program is named. -/
import Derived.Test.YtpbapamoihkaoaaRows
namespace Go.Proofs.Ytpbapamoihkaoaa
set_option linter.unusedVariables false

/-- a rectangle as four integers -/
structure Rc where
  x0 : Int
  y0 : Int
  x1 : Int
  y1 : Int
deriving DecidableEq

def emptyB (a b c d : Int) : Bool := decide (a = 0 ∧ b = 0 ∧ c = 0 ∧ d = 0)
def validB (a b c d : Int) : Bool := decide ((a = 0 ∧ b = 0 ∧ c = 0 ∧ d = 0) ∨ (-1048576 ≤ a ∧ a < c ∧ c ≤ 1048576 ∧ -1048576 ≤ b ∧ b < d ∧ d ≤ 1048576))
theorem validB_t {a b c d : Int} : validB a b c d = true ↔ ((a = 0 ∧ b = 0 ∧ c = 0 ∧ d = 0) ∨ (-1048576 ≤ a ∧ a < c ∧ c ≤ 1048576 ∧ -1048576 ≤ b ∧ b < d ∧ d ≤ 1048576)) := by simp [validB]
theorem validB_f {a b c d : Int} : validB a b c d = false ↔ ¬ ((a = 0 ∧ b = 0 ∧ c = 0 ∧ d = 0) ∨ (-1048576 ≤ a ∧ a < c ∧ c ≤ 1048576 ∧ -1048576 ≤ b ∧ b < d ∧ d ≤ 1048576)) := by rw [← validB_t]; simp
theorem emptyB_t {a b c d : Int} : emptyB a b c d = true ↔ (a = 0 ∧ b = 0 ∧ c = 0 ∧ d = 0) := by simp [emptyB]
theorem emptyB_f {a b c d : Int} : emptyB a b c d = false ↔ ¬ (a = 0 ∧ b = 0 ∧ c = 0 ∧ d = 0) := by rw [← emptyB_t]; simp
def coordB (a : Int) : Bool := decide (-1048576 ≤ a ∧ a ≤ 1048576)
theorem coordB_t {a : Int} : coordB a = true ↔ (-1048576 ≤ a ∧ a ≤ 1048576) := by simp [coordB]
theorem coordB_f {a : Int} : coordB a = false ↔ ¬ (-1048576 ≤ a ∧ a ≤ 1048576) := by rw [← coordB_t]; simp
def fullB (a b c d : Int) : Bool := validB a b c d && !emptyB a b c d
def areaN (a b c d : Int) : Int := if validB a b c d = true then (c - a) * (d - b) else 0
def containsB (a b c d x y : Int) : Bool := decide (validB a b c d = true ∧ a ≤ x ∧ x < c ∧ b ≤ y ∧ y < d)
theorem containsB_t {a b c d x y : Int} : containsB a b c d x y = true ↔ (validB a b c d = true ∧ a ≤ x ∧ x < c ∧ b ≤ y ∧ y < d) := by simp [containsB]
def interR (a b c d e f g h : Int) : Rc := if validB a b c d = true ∧ validB e f g h = true ∧ max a e < min c g ∧ max b f < min d h then ⟨max a e, max b f, min c g, min d h⟩ else ⟨0, 0, 0, 0⟩
def insideB (a b c d e f g h : Int) : Bool := decide (validB a b c d = true ∧ validB e f g h = true ∧ ((a = 0 ∧ b = 0 ∧ c = 0 ∧ d = 0) ∨ (e ≤ a ∧ f ≤ b ∧ c ≤ g ∧ d ≤ h)))
theorem insideB_t {a b c d e f g h : Int} : insideB a b c d e f g h = true ↔ (validB a b c d = true ∧ validB e f g h = true ∧ ((a = 0 ∧ b = 0 ∧ c = 0 ∧ d = 0) ∨ (e ≤ a ∧ f ≤ b ∧ c ≤ g ∧ d ≤ h))) := by simp [insideB]
def hullR (a b c d e f g h : Int) : Rc :=
  if validB a b c d = true ∧ validB e f g h = true then
    if emptyB a b c d = true then ⟨e, f, g, h⟩ else if emptyB e f g h = true then ⟨a, b, c, d⟩ else ⟨min a e, min b f, max c g, max d h⟩
  else ⟨0, 0, 0, 0⟩
def moveB (l : Int) : Bool := decide (0 ≤ l ∧ l ≤ 1048576)
def outR (a b c d l t r u : Int) : Rc :=
  if fullB a b c d = true ∧ (0 ≤ l ∧ l ≤ 1048576) ∧ (0 ≤ t ∧ t ≤ 1048576) ∧ (0 ≤ r ∧ r ≤ 1048576) ∧ (0 ≤ u ∧ u ≤ 1048576) ∧ validB (a - l) (b - t) (c + r) (d + u) = true then ⟨a - l, b - t, c + r, d + u⟩ else ⟨0, 0, 0, 0⟩
theorem inter_t {a b c d e f g h p q r s : Int} (hv : validB a b c d = true) (hu : validB e f g h = true) (hk : (!validB p q r s) = false) (h0 : p = max a e) (h1 : q = max b f) (h2 : r = min c g) (h3 : s = min d h) : Rc.mk p q r s = ⟨(interR a b c d e f g h).x0, (interR a b c d e f g h).y0, (interR a b c d e f g h).x1, (interR a b c d e f g h).y1⟩ := by
  rw [Bool.not_eq_false', validB_t] at hk
  unfold interR
  split
  · rw [Rc.mk.injEq]; exact ⟨h0, h1, h2, h3⟩
  · rename_i hn
    have : ¬ (max a e < min c g ∧ max b f < min d h) := fun hh => hn ⟨hv, hu, hh.1, hh.2⟩
    rw [Rc.mk.injEq]
    show p = 0 ∧ q = 0 ∧ r = 0 ∧ s = 0
    omega
theorem inter_f {a b c d e f g h p q r s : Int} (hv : validB a b c d = true) (hu : validB e f g h = true) (hk : (!validB p q r s) = true) (h0 : p = max a e) (h1 : q = max b f) (h2 : r = min c g) (h3 : s = min d h) : Rc.mk 0 0 0 0 = ⟨(interR a b c d e f g h).x0, (interR a b c d e f g h).y0, (interR a b c d e f g h).x1, (interR a b c d e f g h).y1⟩ := by
  rw [Bool.not_eq_true', validB_f] at hk
  rw [validB_t] at hv hu
  unfold interR
  split
  · rename_i hn
    rw [Rc.mk.injEq]
    exfalso
    have := hn.2.2
    omega
  · rfl
theorem inter_u {a b c d e f g h : Int} (hv : validB a b c d = false ∨ validB e f g h = false) : Rc.mk 0 0 0 0 = ⟨(interR a b c d e f g h).x0, (interR a b c d e f g h).y0, (interR a b c d e f g h).x1, (interR a b c d e f g h).y1⟩ := by
  unfold interR
  rw [if_neg]
  rintro ⟨h1, h2, _⟩
  rcases hv with h | h <;> simp_all
/-- an int of Go -/
def In64 (a : Int) : Prop := -9223372036854775808 ≤ a ∧ a ≤ 9223372036854775807
end Go.Proofs.Ytpbapamoihkaoaa
