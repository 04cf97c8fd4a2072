/- The functions of package border and of its reference that only compute: remainders, the check of a length and of a coordinate, to what a coordinate is mapped, which edges are valid. -/
import Derived.Test.YtpmajophkhihlaaBPlain
import Derived.Test.YtpmajophkhihlaaTape
namespace Go.Proofs.Ytpmajophkhihlaa
open Go.ChangeShapes Go.WideShapes Go.ChangeAt Go.RowKit
set_option linter.unusedVariables false
set_option linter.unusedSimpArgs false

theorem ret_ib {a b : Int} {c d : Bool} (h : a = b ∧ c = d) : Ending.returned (.tuple #[.int .i64 a, .bool c]) = .returned (.tuple #[.int .i64 b, .bool d]) := by rw [h.1, h.2]
/-- a test came back, and nothing changed -/
def TestSame (v : Bool) (w : World) (e : Ending) (w' : World) : Prop := e = .returned (.bool v) ∧ w = w'
/-- a number came back, and nothing changed -/
def NumSame (v : Int) (w : World) (e : Ending) (w' : World) : Prop := e = .returned (.int .i64 v) ∧ w = w'
/-- to what a coordinate is mapped, if at all, and nothing changed -/
def IdxPost (i n p : Int) (w : World) (e : Ending) (w' : World) : Prop := e = .returned (.tuple #[.int .i64 (idxN i n p), .bool (idxB i n p)]) ∧ w = w'
def lenB (n : Int) : Bool := decide (1 ≤ n ∧ n ≤ 128)
theorem lenB_t {n : Int} : lenB n = true ↔ (1 ≤ n ∧ n ≤ 128) := by simp [lenB]
theorem lenB_f {n : Int} : lenB n = false ↔ (n < 1 ∨ 128 < n) := by simp [lenB]; omega
def bcoordB (a : Int) : Bool := decide (-1048576 ≤ a ∧ a ≤ 1048576)
theorem bcoordB_t {a : Int} : bcoordB a = true ↔ InC a := by simp [bcoordB, InC]
theorem bcoordB_f {a : Int} : bcoordB a = false ↔ ¬ InC a := by simp [bcoordB, InC]
theorem len_any (n : Int) (w : World) : Calls Try.prog 56 #[.int .i64 n] w (TestSame (lenB n) w) := by
  go_enter Try.func56, Try.ntmps56
  go_wp2
  all_goals
    go_ret
    refine ⟨ret_bool ?_, rfl⟩
    rw [Bool.eq_iff_iff]; simp [lenB] <;> omega
theorem modulo_any (v n : Int) (w : World) (h0 : 0 < n) (h1 : n ≤ 9223372036854775807) (h2 : -9223372036854775808 ≤ v) (h3 : v ≤ 9223372036854775807) :
    Calls Try.prog 57 #[.int .i64 v, .int .i64 n] w (NumSame (v % n) w) := by
  have hb := tmod_bd v n h0
  by_cases h : v.tmod n < 0
  · have H := Lib.hid (emod_of_neg v n h0 h)
    go_enter Try.func57, Try.ntmps57
    go_wp2
    go_ret
    exact ⟨ret_int H.out, rfl⟩
  · have H := Lib.hid (emod_of_pos v n h0 (by omega))
    go_enter Try.func57, Try.ntmps57
    go_wp2
    go_ret
    exact ⟨ret_int H.out, rfl⟩
theorem rmod_any (v n : Int) (w : World) (h0 : 0 < n) (h1 : n ≤ 9223372036854775807) (h2 : -9223372036854775808 ≤ v) (h3 : v ≤ 9223372036854775807) :
    Calls Try.prog 60 #[.int .i64 v, .int .i64 n] w (NumSame (v % n) w) := by
  have hb := tmod_bd v n h0
  by_cases h : v.tmod n < 0
  · have H := Lib.hid (emod_of_neg v n h0 h)
    go_enter Try.func60, Try.ntmps60
    go_wp2
    go_ret
    exact ⟨ret_int H.out, rfl⟩
  · have H := Lib.hid (emod_of_pos v n h0 (by omega))
    go_enter Try.func60, Try.ntmps60
    go_wp2
    go_ret
    exact ⟨ret_int H.out, rfl⟩

end Go.Proofs.Ytpmajophkhihlaa
