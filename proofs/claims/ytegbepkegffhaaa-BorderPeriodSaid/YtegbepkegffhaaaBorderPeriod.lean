/- BorderPeriod: coordinates within a plane are mapped to themselves, mapped ones are within it, mirror and wrap repeat after two lengths and mirror is continuous, for all ints. No condition. -/
import Derived.Test.YtegbepkegffhaaaBEdge
import Derived.Test.YtegbepkegffhaaaBFacts
import Derived.Test.YtegbepkegffhaaaBRRange
import Derived.Test.YtegbepkegffhaaaLaw
namespace Go.Proofs.Ytegbepkegffhaaa
open Go.ChangeShapes Go.WideShapes Go.ChangeAt Go.RowKit
set_option linter.unusedVariables false
set_option linter.unusedSimpArgs false

theorem period_one {i n p x : Int} (hp : p = 1 ∨ p = 2) (h : idxO i n p = some x) : idxO (i + 2 * n) n p = some x := by
  have := idx_period (i := i) (n := n) 1 hp
  rw [show 2 * n * 1 = 2 * n by omega] at this
  rw [this]; exact h
set_option maxHeartbeats 1000000 in
set_option maxRecDepth 100000 in
theorem period_walk (i n : Int) (w : World) (i0 : -9223372036854775808 ≤ i) (i1 : i ≤ 9223372036854775807) (n0 : -9223372036854775808 ≤ n) (n1 : n ≤ 9223372036854775807) :
    Calls Try.prog 6 #[.int .i64 i, .int .i64 n] w (TestPost true w) := by
  have m0 := Int.emod_nonneg n (show (128 : Int) ≠ 0 by omega)
  have m1 := Int.emod_lt_of_pos n (show (0 : Int) < 128 by omega)
  have c0 := Int.emod_nonneg i (show (4000 : Int) ≠ 0 by omega)
  have c1 := Int.emod_lt_of_pos i (show (0 : Int) < 4000 by omega)
  go_enter Try.func6, Try.ntmps6
  go_wp2_with fail
  refine (mod_any n 128 _ (by omega) (by omega) n0 n1).mono ?_; rintro e w1 ⟨rfl, rfl⟩
  go_wp2_with fail
  refine (mod_any i 4000 _ (by omega) (by omega) i0 i1).mono ?_; rintro e w1 ⟨rfl, rfl⟩
  generalize n % 128 = M at *
  generalize i % 4000 = C at *
  have k1 : 1 ≤ 1 + M := by omega
  have k2 : 1 + M ≤ 128 := by omega
  go_wp2_with fail
  go_loop [7] (fun p => ∃ q : Int, p = .int .i64 q ∧ (0 ≤ q ∧ q ≤ 4)) (fun p => (4 - intOf p).toNat)
  case atStart => exact ⟨0, rfl, by omega, by omega⟩
  case round =>
    obtain ⟨q, rfl, q0, q1⟩ := hrel
    rcases (show q = 0 ∨ q = 1 ∨ q = 2 ∨ q = 3 ∨ q = 4 by omega) with rfl | rfl | rfl | rfl | rfl
    · obtain ⟨A, eA⟩ := idx_there (i := C - 2000) (p := 0) k1 k2 (by omega)
      obtain ⟨D, eD⟩ := idx_there (i := C - 2000 + 1) (p := 0) k1 k2 (by omega)
      obtain ⟨B, eB⟩ := idx_there (i := C - 2000 + 2 * (1 + M)) (p := 0) k1 k2 (by omega)
      obtain ⟨g0, g1, _, _⟩ := idx_bd eA
      obtain ⟨g2, g3, _, _⟩ := idx_bd eD
      have hs : 0 ≤ C - 2000 → C - 2000 < 1 + M → A = C - 2000 := fun x1 x2 => by rw [idx_self k1 k2 x1 x2 (by omega), Option.some.injEq] at eA; omega
      have hA := Lib.hid (idx_val eA)
      have hB := Lib.hid (idx_val eB)
      have hD := Lib.hid (idx_val eD)
      clear eA eB eD
      have hz : C - 2000 < 0 ∨ 1 + M ≤ C - 2000 ∨ (0 ≤ C - 2000 ∧ C - 2000 < 1 + M ∧ A = C - 2000) := by omega
      clear hs
      rcases hz with hz | hz | ⟨z1, z2, rfl⟩
      all_goals
        go_wp2_with fail
        refine (index_is _ (by omega) (by omega) hA.out.1 hA.out.2).mono ?_; rintro e w1 ⟨rfl, rfl⟩
        go_wp2_with fail
        refine (index_is _ (by omega) (by omega) hB.out.1 hB.out.2).mono ?_; rintro e w1 ⟨rfl, rfl⟩
        go_wp2_with fail
        refine (index_is _ (by omega) (by omega) hD.out.1 hD.out.2).mono ?_; rintro e w1 ⟨rfl, rfl⟩
        go_wp2_with fail
        go_round
        case rel => exact ⟨_, rfl, by omega, by omega⟩
        case measure => simp [intOf]
    · obtain ⟨A, eA⟩ := idx_there (i := C - 2000) (p := 1) k1 k2 (by omega)
      obtain ⟨D, eD⟩ := idx_there (i := C - 2000 + 1) (p := 1) k1 k2 (by omega)
      obtain ⟨B, eB, hBA⟩ : ∃ B, idxO (C - 2000 + 2 * (1 + M)) (1 + M) 1 = some B ∧ B = A := ⟨A, period_one (by omega) eA, rfl⟩
      obtain ⟨d0, d1⟩ := mirror_next k1 k2 eA eD
      obtain ⟨g0, g1, _, _⟩ := idx_bd eA
      obtain ⟨g2, g3, _, _⟩ := idx_bd eD
      have hs : 0 ≤ C - 2000 → C - 2000 < 1 + M → A = C - 2000 := fun x1 x2 => by rw [idx_self k1 k2 x1 x2 (by omega), Option.some.injEq] at eA; omega
      have hA := Lib.hid (idx_val eA)
      have hB := Lib.hid (idx_val eB)
      have hD := Lib.hid (idx_val eD)
      clear eA eB eD
      subst hBA
      have hz : C - 2000 < 0 ∨ 1 + M ≤ C - 2000 ∨ (0 ≤ C - 2000 ∧ C - 2000 < 1 + M ∧ B = C - 2000) := by omega
      clear hs
      rcases hz with hz | hz | ⟨z1, z2, rfl⟩
      all_goals
        go_wp2_with fail
        refine (index_is _ (by omega) (by omega) hA.out.1 hA.out.2).mono ?_; rintro e w1 ⟨rfl, rfl⟩
        go_wp2_with fail
        refine (index_is _ (by omega) (by omega) hB.out.1 hB.out.2).mono ?_; rintro e w1 ⟨rfl, rfl⟩
        go_wp2_with fail
        refine (index_is _ (by omega) (by omega) hD.out.1 hD.out.2).mono ?_; rintro e w1 ⟨rfl, rfl⟩
        go_wp2_with fail
        go_round
        case rel => exact ⟨_, rfl, by omega, by omega⟩
        case measure => simp [intOf]
    · obtain ⟨A, eA⟩ := idx_there (i := C - 2000) (p := 2) k1 k2 (by omega)
      obtain ⟨D, eD⟩ := idx_there (i := C - 2000 + 1) (p := 2) k1 k2 (by omega)
      obtain ⟨B, eB, hBA⟩ : ∃ B, idxO (C - 2000 + 2 * (1 + M)) (1 + M) 2 = some B ∧ B = A := ⟨A, period_one (by omega) eA, rfl⟩
      obtain ⟨g0, g1, _, _⟩ := idx_bd eA
      obtain ⟨g2, g3, _, _⟩ := idx_bd eD
      have hs : 0 ≤ C - 2000 → C - 2000 < 1 + M → A = C - 2000 := fun x1 x2 => by rw [idx_self k1 k2 x1 x2 (by omega), Option.some.injEq] at eA; omega
      have hA := Lib.hid (idx_val eA)
      have hB := Lib.hid (idx_val eB)
      have hD := Lib.hid (idx_val eD)
      clear eA eB eD
      subst hBA
      have hz : C - 2000 < 0 ∨ 1 + M ≤ C - 2000 ∨ (0 ≤ C - 2000 ∧ C - 2000 < 1 + M ∧ B = C - 2000) := by omega
      clear hs
      rcases hz with hz | hz | ⟨z1, z2, rfl⟩
      all_goals
        go_wp2_with fail
        refine (index_is _ (by omega) (by omega) hA.out.1 hA.out.2).mono ?_; rintro e w1 ⟨rfl, rfl⟩
        go_wp2_with fail
        refine (index_is _ (by omega) (by omega) hB.out.1 hB.out.2).mono ?_; rintro e w1 ⟨rfl, rfl⟩
        go_wp2_with fail
        refine (index_is _ (by omega) (by omega) hD.out.1 hD.out.2).mono ?_; rintro e w1 ⟨rfl, rfl⟩
        go_wp2_with fail
        go_round
        case rel => exact ⟨_, rfl, by omega, by omega⟩
        case measure => simp [intOf]
    · have hz : (C - 2000 < 0 ∨ 1 + M ≤ C - 2000) ∨ (0 ≤ C - 2000 ∧ C - 2000 < 1 + M) := by omega
      obtain ⟨B, VB, eB⟩ : ∃ B VB, idxN (C - 2000 + 2 * (1 + M)) (1 + M) 3 = B ∧ idxB (C - 2000 + 2 * (1 + M)) (1 + M) 3 = VB := ⟨_, _, rfl, rfl⟩
      obtain ⟨D, VD, eD⟩ : ∃ D VD, idxN (C - 2000 + 1) (1 + M) 3 = D ∧ idxB (C - 2000 + 1) (1 + M) 3 = VD := ⟨_, _, rfl, rfl⟩
      have hB := Lib.hid eB
      have hD := Lib.hid eD
      clear eB eD
      rcases hz with hz | ⟨z1, z2⟩
      · have hA := Lib.hid (idx_nval (idx_out (i := C - 2000) (n := 1 + M) (by omega)))
        rcases hz with hz | hz
        all_goals
          go_wp2_with fail
          refine (index_is _ (by omega) (by omega) hA.out.1 hA.out.2).mono ?_; rintro e w1 ⟨rfl, rfl⟩
          go_wp2_with fail
          refine (index_is _ (by omega) (by omega) hB.out.1 hB.out.2).mono ?_; rintro e w1 ⟨rfl, rfl⟩
          go_wp2_with fail
          refine (index_is _ (by omega) (by omega) hD.out.1 hD.out.2).mono ?_; rintro e w1 ⟨rfl, rfl⟩
          go_wp2_with fail
          go_round
          case rel => exact ⟨_, rfl, by omega, by omega⟩
          case measure => simp [intOf]
      · have hA := Lib.hid (idx_val (idx_const (i := C - 2000) k1 k2 z1 z2))
        go_wp2_with fail
        refine (index_is _ (by omega) (by omega) hA.out.1 hA.out.2).mono ?_; rintro e w1 ⟨rfl, rfl⟩
        go_wp2_with fail
        refine (index_is _ (by omega) (by omega) hB.out.1 hB.out.2).mono ?_; rintro e w1 ⟨rfl, rfl⟩
        go_wp2_with fail
        refine (index_is _ (by omega) (by omega) hD.out.1 hD.out.2).mono ?_; rintro e w1 ⟨rfl, rfl⟩
        go_wp2_with fail
        go_round
        case rel => exact ⟨_, rfl, by omega, by omega⟩
        case measure => simp [intOf]
    · go_wp2_with fail
      refine (sane_any _).mono ?_; rintro e w1 ⟨rfl, hb⟩
      go_wp2_with fail
      go_ret
      exact ⟨rfl, hb⟩
namespace borderPeriod
theorem own : ownKnob Try.prog.godebug = none := by kernel_rfl
theorem laid : laidOutB Try.prog = true := by kernel_rfl
theorem params_ok : ∀ t ∈ Try.f6.params.toList, Try.prog.readableRec t = true ∧ t < Try.prog.types.size := by
  rw [Try.params6]
  intro t ht
  simp at ht
  subst ht
  exact ⟨by kernel_rfl, of_decide_eq_true (by kernel_rfl)⟩
set_option maxRecDepth 100000 in
theorem lifted (os : Os) (started : os.Started) (H : Type) (enc : TypeId × Value → H) :
    ReturnsInHanded {} Try.checked os 6 .any (Rows.borderPeriodSpec.pre6 enc Try.prog Try.f6 Rows.borderPeriodRow.domain false) (Rows.borderPeriodSpec.post enc Try.prog Try.f6 false true false false) := by
  refine returnsInHanded_of_change (C := Try.checked) own started (by kernel_rfl) Try.func6
    (ChangeSpec.witness6 (enc := enc) (C := Try.checked) false ⟨#[], #[.int .i64 0, .int .i64 0], []⟩ 8 (by kernel_rfl) (by kernel_rfl) (by kernel_rfl) (by kernel_rfl)) ?_
  intro W base args ds gs before hval0 hW hcnd _
  have hval : ∀ (j : Nat) t v, Try.f6.params[j]? = some t → args[j]? = some v → Value.okWide Try.prog W .any base t v := hval0
  have hW' := hW
  obtain ⟨p, q, hA0, hV, rfl, hfz, hnd⟩ := hW
  have hA : DataW.TrodAll enc Try.prog W 0 (fun _ => true) true Try.f6.params.toList args.toList ds p := hA0
  rw [Try.params6] at hA hval
  obtain ⟨v0, vs0, d0, ds0, p0, q0, hargs, rfl, rfl, h0, r0⟩ := trodAll_cons hA
  obtain ⟨v1, vs1, d1, ds1, p1, q1, rfl, rfl, rfl, h1, r1⟩ := trodAll_cons r0
  obtain ⟨rfl, rfl, rfl⟩ := trodAll_nil r1
  obtain rfl : args = #[v0, v1] := by cases args; simp_all
  obtain ⟨rfl, rfl⟩ := trodVars_none hV
  obtain ⟨i0, rfl, rfl, rfl, w0⟩ := open_int Try.underlying3 (hval 0 3 v0 rfl rfl) h0
  obtain ⟨i1, rfl, rfl, rfl, w1⟩ := open_int Try.underlying3 (hval 1 3 v1 rfl rfl) h1
  clear hA0 hval0
  have fin : Calls Try.prog 6 #[.int .i64 i0, .int .i64 i1] W (TestPost true W) := period_walk i0 i1 W (wf_bd w0).1 (wf_bd w0).2 (wf_bd w1).1 (wf_bd w1).2
  refine fin.mono fun e W' ⟨he, hb⟩ => ?_
  subst he
  exact ⟨_, rfl, law_post laid rfl Try.underlying4 params_ok rfl hW' rfl hb⟩

theorem over : Rows.borderPeriodRow.holds Try.pinned (OpenSpec.ofChange Rows.borderPeriodSpec) :=
  OpenClaim.holds_of_wide 6 Try.f6 rfl rfl rfl rfl rfl rfl rfl ⟨rfl, rfl, rfl, rfl, rfl⟩ rfl rfl rfl rfl rfl (by kernel_rfl) Try.func6 (by kernel_rfl)
    (of_decide_eq_true (by kernel_rfl)) (by unfold Func.isWrapper; first | (rw [if_pos (by decide +kernel)]; kernel_rfl) | (rw [if_neg (by decide +kernel)]; exact ⟨rfl, rfl⟩))
    (fun os started H enc _ => lifted os started H enc)

/-- the statement -/
theorem proved : Rows.BorderPeriodSaid := over
#print axioms proved
end borderPeriod
end Go.Proofs.Ytegbepkegffhaaa
