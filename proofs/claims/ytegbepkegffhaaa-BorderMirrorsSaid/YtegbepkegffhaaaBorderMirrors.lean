/- BorderMirrors: mirroring is symmetric to both edges, clamping is monotone, wrapping is a shift by the length, for all ints. No condition. -/
import Derived.Test.YtegbepkegffhaaaBEdge
import Derived.Test.YtegbepkegffhaaaBFacts
import Derived.Test.YtegbepkegffhaaaLaw
namespace Go.Proofs.Ytegbepkegffhaaa
open Go.ChangeShapes Go.WideShapes Go.ChangeAt Go.RowKit
set_option linter.unusedVariables false
set_option linter.unusedSimpArgs false

theorem mirrors_walk (i n : Int) (w : World) (i0 : -9223372036854775808 ≤ i) (i1 : i ≤ 9223372036854775807) (n0 : -9223372036854775808 ≤ n) (n1 : n ≤ 9223372036854775807) :
    Calls Try.prog 3 #[.int .i64 i, .int .i64 n] w (TestPost true w) := by
  have m0 := Int.emod_nonneg n (show (128 : Int) ≠ 0 by omega)
  have m1 := Int.emod_lt_of_pos n (show (0 : Int) < 128 by omega)
  have c0 := Int.emod_nonneg i (show (5000 : Int) ≠ 0 by omega)
  have c1 := Int.emod_lt_of_pos i (show (0 : Int) < 5000 by omega)
  go_enter Try.func3, Try.ntmps3
  go_wp2_with fail
  refine (mod_any n 128 _ (by omega) (by omega) n0 n1).mono ?_; rintro e w1 ⟨rfl, rfl⟩
  go_wp2_with fail
  refine (mod_any i 5000 _ (by omega) (by omega) i0 i1).mono ?_; rintro e w1 ⟨rfl, rfl⟩
  generalize n % 128 = M at *
  generalize i % 5000 = C at *
  have k1 : 1 ≤ 1 + M := by omega
  have k2 : 1 + M ≤ 128 := by omega
  obtain ⟨X, eX⟩ := idx_there (i := C - 2500) (p := 1) k1 k2 (by omega)
  obtain ⟨Y, eY⟩ := idx_there (i := C - 2500) (p := 2) k1 k2 (by omega)
  obtain ⟨G, eG⟩ := idx_there (i := C - 2500) (p := 0) k1 k2 (by omega)
  obtain ⟨H, eH⟩ := idx_there (i := C - 2500 + 1) (p := 0) k1 k2 (by omega)
  have hX := Lib.hid (idx_val eX)
  have hX2 := Lib.hid (idx_val ((mirror_low k1 k2).trans eX))
  have hX3 := Lib.hid (idx_val ((mirror_high k1 k2).trans eX))
  have hY := Lib.hid (idx_val eY)
  have hY2 := Lib.hid (idx_val (wrap_shift.trans eY))
  have hG := Lib.hid (idx_val eG)
  have hH := Lib.hid (idx_val eH)
  have hN := clamp_next eG eH
  obtain ⟨g0, g1, _, _⟩ := idx_bd eG
  clear eX eY eG eH
  go_wp2_with fail
  refine (index_is (k := X) (v := true) _ (by omega) (by omega) hX.out.1 hX.out.2).mono ?_; rintro e w1 ⟨rfl, rfl⟩
  go_wp2_with fail
  refine (index_is (k := X) (v := true) _ (by omega) (by omega) hX2.out.1 hX2.out.2).mono ?_; rintro e w1 ⟨rfl, rfl⟩
  go_wp2_with fail
  refine (index_is (k := X) (v := true) _ (by omega) (by omega) hX3.out.1 hX3.out.2).mono ?_; rintro e w1 ⟨rfl, rfl⟩
  go_wp2_with fail
  refine (index_is (k := Y) (v := true) _ (by omega) (by omega) hY.out.1 hY.out.2).mono ?_; rintro e w1 ⟨rfl, rfl⟩
  go_wp2_with fail
  refine (index_is (k := Y) (v := true) _ (by omega) (by omega) hY2.out.1 hY2.out.2).mono ?_; rintro e w1 ⟨rfl, rfl⟩
  go_wp2_with fail
  refine (index_is (k := G) (v := true) _ (by omega) (by omega) hG.out.1 hG.out.2).mono ?_; rintro e w1 ⟨rfl, rfl⟩
  go_wp2_with fail
  refine (index_is (k := H) (v := true) _ (by omega) (by omega) hH.out.1 hH.out.2).mono ?_; rintro e w1 ⟨rfl, rfl⟩
  clear hX hX2 hX3 hY hY2 hG hH
  rcases hN with rfl | rfl
  all_goals
    go_wp2_with fail
    refine (sane_any _).mono ?_; rintro e w1 ⟨rfl, hb⟩
    go_wp2_with fail
    go_ret
    exact ⟨rfl, hb⟩
namespace borderMirrors
theorem own : ownKnob Try.prog.godebug = none := by kernel_rfl
theorem laid : laidOutB Try.prog = true := by kernel_rfl
theorem params_ok : ∀ t ∈ Try.f3.params.toList, Try.prog.readableRec t = true ∧ t < Try.prog.types.size := by
  rw [Try.params3]
  intro t ht
  simp at ht
  subst ht
  exact ⟨by kernel_rfl, of_decide_eq_true (by kernel_rfl)⟩
set_option maxRecDepth 100000 in
theorem lifted (os : Os) (started : os.Started) (H : Type) (enc : TypeId × Value → H) :
    ReturnsInHanded {} Try.checked os 3 .any (Rows.borderMirrorsSpec.pre6 enc Try.prog Try.f3 Rows.borderMirrorsRow.domain false) (Rows.borderMirrorsSpec.post enc Try.prog Try.f3 false true false false) := by
  refine returnsInHanded_of_change (C := Try.checked) own started (by kernel_rfl) Try.func3
    (ChangeSpec.witness6 (enc := enc) (C := Try.checked) false ⟨#[], #[.int .i64 0, .int .i64 0], []⟩ 8 (by kernel_rfl) (by kernel_rfl) (by kernel_rfl) (by kernel_rfl)) ?_
  intro W base args ds gs before hval0 hW hcnd _
  have hval : ∀ (j : Nat) t v, Try.f3.params[j]? = some t → args[j]? = some v → Value.okWide Try.prog W .any base t v := hval0
  have hW' := hW
  obtain ⟨p, q, hA0, hV, rfl, hfz, hnd⟩ := hW
  have hA : DataW.TrodAll enc Try.prog W 0 (fun _ => true) true Try.f3.params.toList args.toList ds p := hA0
  rw [Try.params3] at hA hval
  obtain ⟨v0, vs0, d0, ds0, p0, q0, hargs, rfl, rfl, h0, r0⟩ := trodAll_cons hA
  obtain ⟨v1, vs1, d1, ds1, p1, q1, rfl, rfl, rfl, h1, r1⟩ := trodAll_cons r0
  obtain ⟨rfl, rfl, rfl⟩ := trodAll_nil r1
  obtain rfl : args = #[v0, v1] := by cases args; simp_all
  obtain ⟨rfl, rfl⟩ := trodVars_none hV
  obtain ⟨i0, rfl, rfl, rfl, w0⟩ := open_int Try.underlying3 (hval 0 3 v0 rfl rfl) h0
  obtain ⟨i1, rfl, rfl, rfl, w1⟩ := open_int Try.underlying3 (hval 1 3 v1 rfl rfl) h1
  clear hA0 hval0
  have fin : Calls Try.prog 3 #[.int .i64 i0, .int .i64 i1] W (TestPost true W) := mirrors_walk i0 i1 W (wf_bd w0).1 (wf_bd w0).2 (wf_bd w1).1 (wf_bd w1).2
  refine fin.mono fun e W' ⟨he, hb⟩ => ?_
  subst he
  exact ⟨_, rfl, law_post laid rfl Try.underlying4 params_ok rfl hW' rfl hb⟩

theorem over : Rows.borderMirrorsRow.holds Try.pinned (OpenSpec.ofChange Rows.borderMirrorsSpec) :=
  OpenClaim.holds_of_wide 3 Try.f3 rfl rfl rfl rfl rfl rfl rfl ⟨rfl, rfl, rfl, rfl, rfl⟩ rfl rfl rfl rfl rfl (by kernel_rfl) Try.func3 (by kernel_rfl)
    (of_decide_eq_true (by kernel_rfl)) (by unfold Func.isWrapper; first | (rw [if_pos (by decide +kernel)]; kernel_rfl) | (rw [if_neg (by decide +kernel)]; exact ⟨rfl, rfl⟩))
    (fun os started H enc _ => lifted os started H enc)

/-- the statement -/
theorem proved : Rows.BorderMirrorsSaid := over
#print axioms proved
end borderMirrors
end Go.Proofs.Ytegbepkegffhaaa
