/- What the laws of layer 7 share: the chapter's examples; the reference and Mod at known results. -/
import Derived.Test.YtngaocfokdlhaaaHProg
import Derived.Test.YtngaocfokdlhaaaLaw
import Derived.Test.YtngaocfokdlhaaaList
import Derived.Test.YtngaocfokdlhaaaWithin
import Derived.Deep.DeepCutAuto
namespace Go.Proofs.Ytngaocfokdlhaaa
open Go.ChangeShapes Go.WideShapes Go.ChangeAt Go.RowKit
set_option linter.unusedVariables false
set_option linter.unusedSimpArgs false

theorem mod_rng (v n : Int) (w : World) (h0 : 0 < n) (h1 : n ≤ 9223372036854775807) (h2 : -9223372036854775808 ≤ v) (h3 : v ≤ 9223372036854775807) {r : Int} (hr : v % n = r) :
    Calls Try.prog 7 #[.int .i64 v, .int .i64 n] w fun e w' => e = .returned (.int .i64 r) ∧ w = w' := by
  rw [← hr]; exact (mod_any v n w h0 h1 h2 h3).mono fun e w' h => ⟨h.1, h.2⟩
theorem rclamp_is {v m n : Int} (h : clampN v m = n) (w : World) : Calls Try.prog 13 #[.int .i64 v, .int .i64 m] w fun e w' => e = .returned (.int .i64 n) ∧ w = w' := by
  subst h; exact rclamp_any v m w
theorem rspan_is {lo hi s x y : Int} (hx : shiftN lo s = x) (hy : shiftN hi s = y) (w : World) : Calls Try.prog 9 #[.int .i64 lo, .int .i64 hi, .int .i64 s] w fun e w' => e = .returned (.tuple #[.int .i64 x, .int .i64 y]) ∧ w = w' := by
  subst hx; subst hy; exact rspan_any lo hi s w
theorem rbounds_is {L : List Int} {lo hi x y : Int} {b : Bool} (hx : boundsA L lo hi = x) (hy : boundsZ L lo hi = y) (hb : boundsB L lo hi = b) (a : Option Addr) (cap : Nat) (w : World) (hs : SliceIs w a L) (hl : L.length ≤ 9223372036854775807) :
    Calls Try.prog 20 #[.slice a L.length cap, .int .i64 lo, .int .i64 hi] w fun e w' => e = .returned (.tuple #[.int .i64 x, .int .i64 y, .bool b]) ∧ Below w.heap.size w w' := by
  subst hx; subst hy; subst hb; exact rbounds_any L lo hi a cap w hs hl
theorem hx_shift : shiftN 5 1 = 3 ∧ shiftN (-5) 1 = -2 ∧ shiftN (-6) 2 = -1 ∧ clampN 9 5 = 5 := by decide +kernel
theorem hx_bounds : boundsA [1, -2] 0 10 = -20 ∧ boundsZ [1, -2] 0 10 = 10 ∧ boundsB [1, -2] 0 10 = true := by decide +kernel
set_option maxHeartbeats 1000000 in
theorem sane_any (w : World) : Calls Try.prog 14 #[] w (TestPost true w) := by
  have HB := Lib.hid (bref w)
  go_enter Try.func14, Try.ntmps14
  go_wp2_with fail
  have HS : Hid (SliceIs (w.alloc (.cells #[.int .i64 1, .int .i64 (-2)] 3)) (some ⟨w.heap.size, 0, none⟩) [1, -2]) := Lib.hid (fun k hk => ⟨_, _, rfl, by
    rw [Nat.zero_add, World.cell?_alloc_new]
    simp at hk; rcases (show k = 0 ∨ k = 1 by omega) with rfl | rfl <;> rfl⟩)
  have HB1 := Lib.hid (balloc HB.out (.cells #[.int .i64 1, .int .i64 (-2)] 3))
  refine (fbounds_is hx_bounds.1 hx_bounds.2.1 hx_bounds.2.2 _ _ _ HS.out (by simp)).mono ?_; rintro e w1 ⟨rfl, hb⟩
  have HB2 := Lib.hid (bthen HB1.out hb)
  clear HB HB1 HS hb
  go_wp2_with fail
  refine (fshift_is hx_shift.1 _).mono ?_; rintro e w2 ⟨rfl, hb⟩
  have HB3 := Lib.hid (bthen HB2.out hb); clear HB2 hb
  go_wp2_with fail
  refine (fshift_is hx_shift.2.1 _).mono ?_; rintro e w3 ⟨rfl, hb⟩
  have HB4 := Lib.hid (bthen HB3.out hb); clear HB3 hb
  go_wp2_with fail
  refine (fshift_is hx_shift.2.2.1 _).mono ?_; rintro e w4 ⟨rfl, hb⟩
  have HB5 := Lib.hid (bthen HB4.out hb); clear HB4 hb
  go_wp2_with fail
  refine (fclamp_is hx_shift.2.2.2 _).mono ?_; rintro e w5 ⟨rfl, hb⟩
  have HB6 := Lib.hid (bthen HB5.out hb); clear HB5 hb
  go_wp2_with fail
  go_returns
  exact ⟨rfl, HB6.out⟩
theorem sane_is (W : World) : Calls Try.prog 14 #[] W fun e w' => e = .returned (.bool true) ∧ Below W.heap.size W w' := sane_any W
end Go.Proofs.Ytngaocfokdlhaaa
