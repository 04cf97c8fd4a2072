/- The small functions of the package ieee as contracts: fields, signs, trailing zeros, classes, parts, the order of values. They leave the world as it is. -/
import Derived.Test.YtnkiieiebldpoaaDoorEBits
import Derived.Test.YtnkiieiebldpoaaDoorFParts
namespace Go.Proofs.YtnkiieiebldpoaaDoor
open Go.ChangeShapes Go.WideShapes Go.ChangeAt Go.RowKit
set_option linter.unusedVariables false
set_option linter.unusedSimpArgs false

/-- the table of the lowest bits lies in the variable -/
def TabZ (w : World) : Prop := ∀ i, i < 64 → w.cell? ⟨0, i, none⟩ = some (.int .u8 (tabZ.getD i 0))
theorem TabZ.below {W w : World} (h : TabZ W) (hb : Below W.heap.size W w) : TabZ w := fun i hi => bkeep hb (h i hi)
theorem tz64_any (M : Nat) (w : World) (h0 : M ≠ 0) (h1 : M < 18446744073709551616) (hT : TabZ w) :
    Calls Tryd.prog 38 #[.int .u64 M] w fun e w' => e = .returned (.int .i64 (tz M)) ∧ w = w' := by
  obtain ⟨hz, hz1⟩ := tz_lib h0 h1
  obtain ⟨j, hj, ej, et⟩ := tab_at hz1
  have hc := hT j hj
  rw [et] at hc
  have hn : ((M : Int) == 0) = false := by simp; omega
  have a1 := Lib.hid (low_bit h0 h1)
  have E1 := Lib.hid ej
  have Z1 := Lib.hid hz1
  have H0 := Lib.hid h0
  have H1 := Lib.hid h1
  have hjI : (j : Int) < 64 := by omega
  obtain ⟨N, eN⟩ : ∃ N : Int, IntKind.u64.wrap (-(M : Int)) = N := ⟨_, rfl⟩
  have eN2 : N = 18446744073709551616 - (M : Int) := by rw [← eN, IntKind.wrap_u64]; omega
  obtain ⟨K, eK⟩ : ∃ K : Int, bits .and .u64 (M : Int) N = K := ⟨_, rfl⟩
  have eK2 : K = ((2 ^ tz M : Nat) : Int) := by rw [← eK, eN2]; exact a1.out
  obtain ⟨D, eD⟩ : ∃ D : Int, IntKind.u64.wrap (K * 285870213051353865) = D := ⟨_, rfl⟩
  have eJ : D / 288230376151711744 = (j : Int) := by
    rw [← eD, eK2, IntKind.wrap_u64, ← ej]
    simp
  clear a1 hz et ej hz1 h0 h1 eN2 eK2
  go_enter Tryd.func38, Tryd.ntmps38
  go_wp2_with fail
  go_returns
  refine ⟨ret_int ?_, rfl⟩
  have := Z1.out
  unfold wrap64; omega
theorem trailing_any (M : Nat) (w : World) (h0 : M ≠ 0) (h1 : M < 18446744073709551616) (hT : TabZ w) :
    Calls Tryd.prog 27 #[.int .u64 M] w fun e w' => e = .returned (.int .i64 (tz M)) ∧ w = w' := by
  have H := Lib.hid (fun w (g : TabZ w) => tz64_any M w h0 h1 g)
  have HT := Lib.hid hT
  clear h0 h1 hT
  go_enter Tryd.func27, Tryd.ntmps27
  go_wp2_with fail
  refine (H.out _ HT.out).mono ?_; rintro e w1 ⟨rfl, rfl⟩
  go_wp2_with fail
  go_returns
  exact ⟨rfl, rfl⟩
theorem expo_is {x e : Int} (h : In64u x) (he : exN x = e) (w : World) :
    Calls Tryd.prog 26 #[.int .u64 x] w fun e' w' => e' = .returned (.int .i64 e) ∧ w = w' := by
  subst he
  have a1 := Lib.hid (and_exp h)
  have b1 := Lib.hid (ex_bd x)
  clear h
  go_enter Tryd.func26, Tryd.ntmps26
  go_wp2_with fail
  go_returns
  refine ⟨ret_int ?_, rfl⟩
  show wrap64 (bits BinOp.and IntKind.u64 (x / 4503599627370496) 2047) = _
  rw [a1.out]; have := b1.out; unfold wrap64; omega
theorem signed_is {x n : Int} {s : Bool} (h : In64u x) (hs : sgB x = s) (h0 : 0 ≤ n) (h1 : n ≤ 9223372036854775807) (w : World) :
    Calls Tryd.prog 28 #[.int .u64 x, .int .u64 n] w fun e' w' => e' = .returned (.int .i64 (if s = true then -n else n)) ∧ w = w' := by
  have a1 := and_sign_ne h
  rw [hs] at a1
  have hn : wrap64 n = n := by unfold wrap64; omega
  have hm : wrap64 (-n) = -n := by unfold wrap64; omega
  have Hn := Lib.hid hn
  have Hm := Lib.hid hm
  clear h hs hn hm
  rcases s with _ | _
  all_goals
    go_enter Tryd.func28, Tryd.ntmps28
    go_wp2_with fail
    go_returns
    refine ⟨ret_int ?_, rfl⟩
    first | rfl | (simp; done)
theorem class_is {x c : Int} (h : In64u x) (hc : classN x = c) (w : World) : Calls Tryd.prog 12 #[.int .u64 x] w fun e w' => e = .returned (.int .i64 c) ∧ w = w' := by
  obtain ⟨e, ee⟩ : ∃ e, exN x = e := ⟨_, rfl⟩
  obtain ⟨f, ef⟩ : ∃ f, frN x = f := ⟨_, rfl⟩
  have b1 := ex_bd x
  have b2 := fr_bd x
  have HC : Hid (c = if e = 2047 ∧ f = 0 then 3 else if e = 2047 then 4 else if 0 < e then 2 else if 0 < f then 1 else 0) := Lib.hid (by rw [← hc]; unfold classN; rw [ee, ef])
  have eF : bits .and .u64 x 4503599627370495 = f := by rw [← ef]; exact and_frac h
  rw [ee] at b1
  rw [ef] at b2
  have Ee := Lib.hid ee
  have H := Lib.hid h
  clear ee ef h hc
  go_enter Tryd.func12, Tryd.ntmps12
  go_wp2_with fail
  refine (expo_is H.out Ee.out _).mono ?_; rintro e' w' ⟨rfl, rfl⟩
  go_wp2_with fail
  all_goals
    go_ret
    refine ⟨ret_int ?_, rfl⟩
    rw [HC.out]
    simp at *
    (repeat' split) <;> omega
/-- what is left when all halves are taken out -/
theorem parts_tz {x : Int} (hc : classN x ≤ 2) (hm : 0 < mantN x) : ∃ M k F : Nat, mantN x = M ∧ M ≠ 0 ∧ M < 9007199254740992 ∧ tz M = k ∧ k < 64 ∧ (M : Int) / 2 ^ k = F ∧ F < 9007199254740992 ∧ partE x = e0N x + k ∧ partM x = (if sgB x = true then -(F : Int) else F) := by
  have hb := mant_bd x
  obtain ⟨f, j, h1, h2⟩ := odd_part (mantN x).toNat (by omega)
  obtain ⟨h3, h4⟩ := parts_at hc hm h1 h2
  obtain ⟨h5, h6⟩ := tz_is (M := (mantN x).toNat) (by omega) h1 h2
  have h7 := (tz_lib (M := (mantN x).toNat) (by omega) (by omega)).2
  have h8 : f * 1 ≤ f * 2 ^ j := Nat.mul_le_mul_left _ (Nat.two_pow_pos j)
  refine ⟨(mantN x).toNat, j, f, by omega, by omega, by omega, h5, by omega, ?_, by omega, h3, h4⟩
  have c : ((2 : Int) ^ j) = ((2 ^ j : Nat) : Int) := by simp
  rw [c, ← Int.natCast_ediv, h6]
end Go.Proofs.YtnkiieiebldpoaaDoor
