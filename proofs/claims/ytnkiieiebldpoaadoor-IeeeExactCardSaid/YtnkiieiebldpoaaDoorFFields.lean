/- Class, Parts and Compare of the reference as contracts: what each returns; they leave the world as it is. -/
import Derived.Test.YtnkiieiebldpoaaDoorFPlain
namespace Go.Proofs.YtnkiieiebldpoaaDoor
open Go.ChangeShapes Go.WideShapes Go.ChangeAt Go.RowKit
set_option linter.unusedVariables false
set_option linter.unusedSimpArgs false

theorem ret_bii {a b : Bool} {c d e f : Int} (h : a = b ∧ c = d ∧ e = f) : Ending.returned (.tuple #[.bool a, .int .i64 c, .int .i64 e]) = .returned (.tuple #[.bool b, .int .i64 d, .int .i64 f]) := by rw [h.1, h.2.1, h.2.2]
theorem fields_any (x : Int) (w : World) (h : In64u x) :
    Calls Tryd.prog 29 #[.int .u64 x] w fun e w' => e = .returned (.tuple #[.bool (sgB x), .int .i64 (exN x), .int .i64 (frN x)]) ∧ w = w' := by
  obtain ⟨h0, h1⟩ := h
  have a1 := Lib.hid (and_exp ⟨h0, h1⟩)
  have a2 := Lib.hid (and_frac ⟨h0, h1⟩)
  have a3 := Lib.hid (sign_eq ⟨h0, h1⟩)
  have b1 := Lib.hid (ex_bd x)
  have b2 := Lib.hid (fr_bd x)
  go_enter Tryd.func29, Tryd.ntmps29
  go_wp2_with fail
  go_returns
  refine ⟨ret_bii ⟨a3.out, ?_, ?_⟩, rfl⟩
  · show wrap64 (bits BinOp.and IntKind.u64 (x / 4503599627370496) 2047) = _
    rw [a1.out]; have := b1.out; unfold wrap64; omega
  · show wrap64 (bits BinOp.and IntKind.u64 x 4503599627370495) = _
    rw [a2.out]; have := b2.out; unfold wrap64; omega
theorem fields_is {x f e : Int} {s : Bool} (h : In64u x) (hs : sgB x = s) (he : exN x = e) (hf : frN x = f) (w : World) :
    Calls Tryd.prog 29 #[.int .u64 x] w fun e' w' => e' = .returned (.tuple #[.bool s, .int .i64 e, .int .i64 f]) ∧ w = w' := by
  have := fields_any x w h
  rw [hs, he, hf] at this; exact this
/-- what Class leaves -/
def ClassPost (x : Int) (w : World) (e : Ending) (w' : World) : Prop := e = .returned (.int .i64 (classN x)) ∧ w = w'
theorem rclass_any (x : Int) (w : World) (h : In64u x) : Calls Tryd.prog 13 #[.int .u64 x] w (ClassPost x w) := by
  obtain ⟨s, es⟩ : ∃ s, sgB x = s := ⟨_, rfl⟩
  obtain ⟨e, ee⟩ : ∃ e, exN x = e := ⟨_, rfl⟩
  obtain ⟨f, ef⟩ : ∃ f, frN x = f := ⟨_, rfl⟩
  have b1 := ex_bd x
  have b2 := fr_bd x
  have HC : Hid (classN x = if e = 2047 ∧ f = 0 then 3 else if e = 2047 then 4 else if 0 < e then 2 else if 0 < f then 1 else 0) := Lib.hid (by unfold classN; rw [ee, ef])
  rw [ee] at b1
  rw [ef] at b2
  have Es := Lib.hid es
  have Ee := Lib.hid ee
  have Ef := Lib.hid ef
  have H := Lib.hid h
  clear es ee ef h
  go_enter Tryd.func13, Tryd.ntmps13
  go_wp2_with fail
  refine (fields_is H.out Es.out Ee.out Ef.out _).mono ?_; rintro e' w' ⟨rfl, rfl⟩
  go_wp2_with fail
  all_goals
    go_ret
    refine ⟨ret_int ?_, rfl⟩
    rw [HC.out]
    simp at *
    (repeat' split) <;> omega
theorem rclass_is {x c : Int} (h : In64u x) (hc : classN x = c) (w : World) : Calls Tryd.prog 13 #[.int .u64 x] w fun e w' => e = .returned (.int .i64 c) ∧ w = w' := by
  have := rclass_any x w h
  unfold ClassPost at this
  rw [hc] at this; exact this
end Go.Proofs.YtnkiieiebldpoaaDoor
