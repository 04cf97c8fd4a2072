/- The functions of package border and of its reference that only compute: remainders, the check of a length and of a coordinate, to what a coordinate is mapped, which edges are valid. -/
import Derived.Test.YtegbepkegffhaaaBPlain
import Derived.Test.YtegbepkegffhaaaTape
namespace Go.Proofs.Ytegbepkegffhaaa
open Go.ChangeShapes Go.WideShapes Go.ChangeAt Go.RowKit
set_option linter.unusedVariables false
set_option linter.unusedSimpArgs false

theorem ret_ib {a b : Int} {c d : Bool} (h : a = b ∧ c = d) : Ending.returned (.tuple #[.int .i64 a, .bool c]) = .returned (.tuple #[.int .i64 b, .bool d]) := by rw [h.1, h.2]
/-- a test came back, and nothing changed -/
def TestSame (v : Bool) (w : World) (e : Ending) (w' : World) : Prop := e = .returned (.bool v) ∧ w = w'
/-- a number came back, and nothing changed -/
def NumSame (v : Int) (w : World) (e : Ending) (w' : World) : Prop := e = .returned (.int .i64 v) ∧ w = w'
/-- to what a coordinate is mapped, if at all, and nothing changed -/
def IdxPost (i n p : Int) (w : World) (e : Ending) (w' : World) : Prop := e = .returned (.tuple #[.int .i64 (idxN i n p), .bool (idxB i n p)]) ∧ w = w'
def sideB (n : Int) : Bool := decide (1 ≤ n ∧ n ≤ 128)
theorem sideB_t {n : Int} : sideB n = true ↔ (1 ≤ n ∧ n ≤ 128) := by simp [sideB]
theorem sideB_f {n : Int} : sideB n = false ↔ (n < 1 ∨ 128 < n) := by simp [sideB]; omega
def coordB (a : Int) : Bool := decide (-1048576 ≤ a ∧ a ≤ 1048576)
theorem coordB_t {a : Int} : coordB a = true ↔ InC a := by simp [coordB, InC]
theorem coordB_f {a : Int} : coordB a = false ↔ ¬ InC a := by simp [coordB, InC]
theorem side_any (n : Int) (w : World) : Calls Try.prog 19 #[.int .i64 n] w (TestSame (sideB n) w) := by
  go_enter Try.func19, Try.ntmps19
  go_wp2
  all_goals
    go_ret
    refine ⟨ret_bool ?_, rfl⟩
    rw [Bool.eq_iff_iff]; simp [sideB] <;> omega
theorem coord_any (n : Int) (w : World) : Calls Try.prog 22 #[.int .i64 n] w (TestSame (coordB n) w) := by
  go_enter Try.func22, Try.ntmps22
  go_wp2
  all_goals
    go_ret
    refine ⟨ret_bool ?_, rfl⟩
    rw [Bool.eq_iff_iff]; simp [coordB] <;> omega
theorem modulo_any (v n : Int) (w : World) (h0 : 0 < n) (h1 : n ≤ 9223372036854775807) (h2 : -9223372036854775808 ≤ v) (h3 : v ≤ 9223372036854775807) :
    Calls Try.prog 20 #[.int .i64 v, .int .i64 n] w (NumSame (v % n) w) := by
  have hb := tmod_bd v n h0
  by_cases h : v.tmod n < 0
  · have H := Lib.hid (emod_of_neg v n h0 h)
    go_enter Try.func20, Try.ntmps20
    go_wp2
    go_ret
    exact ⟨ret_int H.out, rfl⟩
  · have H := Lib.hid (emod_of_pos v n h0 (by omega))
    go_enter Try.func20, Try.ntmps20
    go_wp2
    go_ret
    exact ⟨ret_int H.out, rfl⟩
theorem rmod_any (v n : Int) (w : World) (h0 : 0 < n) (h1 : n ≤ 9223372036854775807) (h2 : -9223372036854775808 ≤ v) (h3 : v ≤ 9223372036854775807) :
    Calls Try.prog 21 #[.int .i64 v, .int .i64 n] w (NumSame (v % n) w) := by
  have hb := tmod_bd v n h0
  by_cases h : v.tmod n < 0
  · have H := Lib.hid (emod_of_neg v n h0 h)
    go_enter Try.func21, Try.ntmps21
    go_wp2
    go_ret
    exact ⟨ret_int H.out, rfl⟩
  · have H := Lib.hid (emod_of_pos v n h0 (by omega))
    go_enter Try.func21, Try.ntmps21
    go_wp2
    go_ret
    exact ⟨ret_int H.out, rfl⟩

end Go.Proofs.Ytegbepkegffhaaa
