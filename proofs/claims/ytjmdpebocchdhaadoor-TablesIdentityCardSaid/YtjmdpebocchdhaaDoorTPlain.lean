/- Tables of taps as plain lists: which are valid, box and linear ones, quantized ones. No program is named. -/
import Derived.Test.YtjmdpebocchdhaaDoorTMem
import Derived.Test.YtjmdpebocchdhaaDoorFQuantPlain
import Derived.Test.YtjmdpebocchdhaaDoorHPlain
namespace Go.Proofs.YtjmdpebocchdhaaDoor
set_option linter.unusedVariables false
set_option linter.unusedSimpArgs false

def sideT (n : Int) : Bool := decide (1 ≤ n ∧ n ≤ 128)
theorem sideT_t {n : Int} : sideT n = true ↔ (1 ≤ n ∧ n ≤ 128) := by simp [sideT]
theorem sideT_f {n : Int} : sideT n = false ↔ ¬ (1 ≤ n ∧ n ≤ 128) := by rw [← sideT_t]; simp
def firstT (n : Int) : Bool := decide (-128 ≤ n ∧ n ≤ 256)
theorem firstT_t {n : Int} : firstT n = true ↔ (-128 ≤ n ∧ n ≤ 256) := by simp [firstT]
theorem firstT_f {n : Int} : firstT n = false ↔ ¬ (-128 ≤ n ∧ n ≤ 256) := by rw [← firstT_t]; simp
/-- the first error of a tap -/
def tapE (t : Tp) : Int := if t.L.length = 0 ∨ 8 < t.L.length then 9 else if t.L.all weightB = false then 10 else if firstT t.f = false then 2 else 0
/-- the first error of taps -/
def errV : List Tp → Int
  | [] => 0
  | t :: r => if tapE t = 0 then errV r else tapE t
def validC (T : List Tp) (n : Int) : Int := if sideT n = false ∨ sideT T.length = false then 8 else errV T
/-- the errors of the makers that come from their numbers -/
def makeC (n m s : Int) : Int := if sideT n = false ∨ sideT m = false then 8 else if s < 0 ∨ 14 < s then 2 else 0
def one (s : Int) : Int := 2 ^ s.toNat
/-- a linear tap -/
def linP (n m i : Int) : Int := (2 * i + 1) * n - m
def linK (n m i : Int) : Int := linP n m i / (2 * m)
def linW (n m s i : Int) : Int := (2 * (linP n m i - linK n m i * (2 * m)) * one s + 2 * m) / (2 * (2 * m))
def linTap (n m s : Int) (i : Nat) : Tp := ⟨linK n m i, [one s - linW n m s i, linW n m s i]⟩
def linL (n m s : Int) (k : Nat) : List Tp := (List.range k).map (linTap n m s)
def linT (n m s : Int) : List Tp := if makeC n m s = 0 then linL n m s m.toNat else []
theorem linL_step (n m s : Int) (k : Nat) : linL n m s (k + 1) = linL n m s k ++ [linTap n m s k] := by unfold linL; rw [List.range_succ, List.map_append]; rfl
theorem linL_len (n m s : Int) (k : Nat) : (linL n m s k).length = k := by simp [linL]
theorem one_bd {s : Int} (h : 0 ≤ s ∧ s ≤ 14) : (1 : Int) ≤ one s ∧ one s ≤ 16384 := by
  have h1 : 2 ^ s.toNat ≤ 2 ^ 14 := Nat.pow_le_pow_right (by decide) (by omega)
  have h2 : (2 : Nat) ^ 14 = 16384 := by decide
  have h3 := Nat.two_pow_pos s.toNat
  have c : ((2 : Int) ^ s.toNat) = ((2 ^ s.toNat : Nat) : Int) := by simp
  unfold one
  rw [c]; omega
/-- parts of a total by largest remainders -/
def floorsL (total S : Int) (P : List Int) : List Int := P.map fun p => total * p / S
def restsL (total S : Int) (P : List Int) : List Int := P.map fun p => total * p % S
def stepD (x : List Int × List Int) : List Int × List Int := (x.1.set (bestAt x.2 x.2.length) (x.1.getD (bestAt x.2 x.2.length) 0 + 1), x.2.set (bestAt x.2 x.2.length) (-1))
def iterD : Nat → List Int × List Int → List Int × List Int
  | 0, x => x
  | k + 1, x => iterD k (stepD x)
def divL (total : Int) (P : List Int) : List Int := (iterD (total - (floorsL total P.sum P).sum).toNat (floorsL total P.sum P, restsL total P.sum P)).1
/-- a box tap -/
def boxF (n m i : Int) : Int := i * n / m
def boxP (n m i : Int) (j : Nat) : Int := min ((i + 1) * n) ((boxF n m i + j + 1) * m) - max (i * n) ((boxF n m i + j) * m)
def boxN (n m i : Int) : Nat := (((i + 1) * n + m - 1) / m - boxF n m i).toNat
def boxPs (n m i : Int) : List Int := (List.range (boxN n m i)).map (boxP n m i)
def boxTap (n m s : Int) (i : Nat) : Tp := ⟨boxF n m i, divL (one s) (boxPs n m i)⟩
def boxL (n m s : Int) (k : Nat) : List Tp := (List.range k).map (boxTap n m s)
/-- whether the first k taps have few weights each -/
def boxOk (n m : Int) (k : Nat) : Bool := (List.range k).all fun i => decide (boxN n m i ≤ 8)
def boxC (n m s : Int) : Int := if makeC n m s ≠ 0 then makeC n m s else if boxOk n m m.toNat = true then 0 else 9
def boxT (n m s : Int) : List Tp := if boxC n m s = 0 then boxL n m s m.toNat else []
theorem boxL_step (n m s : Int) (k : Nat) : boxL n m s (k + 1) = boxL n m s k ++ [boxTap n m s k] := by unfold boxL; rw [List.range_succ, List.map_append]; rfl
theorem boxL_len (n m s : Int) (k : Nat) : (boxL n m s k).length = k := by simp [boxL]
end Go.Proofs.YtjmdpebocchdhaaDoor
