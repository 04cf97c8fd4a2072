/- For all three ints the statement FixedClamps returns true: a clamped number is the nearest one from 0 to the greatest value. No condition on them. -/
import Derived.Test.YtngaocfokdlhaaaHKit
namespace Go.Proofs.Ytngaocfokdlhaaa
open Go.ChangeShapes Go.WideShapes Go.ChangeAt Go.RowKit
set_option linter.unusedVariables false
set_option linter.unusedSimpArgs false

theorem clamp_in {v m : Int} (h0 : 0 ≤ v) (h1 : v ≤ m) : clampN v m = v := by
  unfold clampN
  rw [if_neg (by omega), if_neg (by omega)]
/-- how the distances stand -/
def Dist (d e : Int) : Prop := (d < 0 ∧ e < 0 ∧ e ≤ d) ∨ (0 < d ∧ d ≤ e) ∨ (d = 0 ∧ e < 0) ∨ (d = 0 ∧ 0 ≤ e)
theorem dist_any {n m x : Int} (hm : 0 ≤ m) (hx : 0 ≤ x ∧ x ≤ m) : (0 ≤ clampN n m ∧ clampN n m ≤ m) ∧ Dist (n - clampN n m) (n - x) := by
  unfold clampN Dist
  split
  · omega
  · split <;> omega
set_option maxRecDepth 100000 in
set_option maxHeartbeats 2000000 in
theorem clamps_way (v mx at_ m n0 n c x d e m1 : Int) (w : World) (f0 : Hid (-9223372036854775808 ≤ v ∧ v ≤ 9223372036854775807)) (f1 : Hid (-9223372036854775808 ≤ mx ∧ mx ≤ 9223372036854775807)) (f2 : Hid (-9223372036854775808 ≤ at_ ∧ at_ ≤ 9223372036854775807))
    (E1 : Hid (mx % 1099511627776 = m)) (E2 : Hid (v % 4398046511104 = n0)) (e3 : wrap64 (n0 - 2199023255552) = n) (e4 : wrap64 (m + 1) = m1) (hm1 : Hid (0 < m1 ∧ m1 ≤ 9223372036854775807)) (E5 : Hid (at_ % m1 = x)) (E6 : Hid (clampN n m = c)) (E7 : Hid (clampN c m = c))
    (e8 : wrap64 (n - c) = d) (e9 : wrap64 (n - x) = e) (e10 : wrap64 (-d) = -d) (e11 : wrap64 (-e) = -e) (h0 : 0 ≤ c) (h1 : c ≤ m) (h2 : Hid (Dist d e)) :
    Calls Try.prog 6 #[.int .i64 v, .int .i64 mx, .int .i64 at_] w (TestPost true w) := by
  have HB := Lib.hid (bref w)
  rcases h2.out with ⟨g1, g2, g3⟩ | ⟨g1, g2⟩ | ⟨rfl, g2⟩ | ⟨rfl, g2⟩
  all_goals
    (try (have g4 : ¬ e < 0 := by omega))
    (try (have g5 : ¬ d < 0 := by omega))
    (try (have g6 : -d ≤ -e := by omega))
    (try (have g7 : 0 ≤ -e := by omega))
    clear h2
    go_enter Try.func6, Try.ntmps6
    go_wp2_with fail
    refine (mod_rng _ _ _ (by decide) (by decide) f1.out.1 f1.out.2 E1.out).mono ?_; rintro e w1 ⟨rfl, rfl⟩
    go_wp2_with fail
    refine (mod_rng _ _ _ (by decide) (by decide) f0.out.1 f0.out.2 E2.out).mono ?_; rintro e w1 ⟨rfl, rfl⟩
    go_wp2_with fail
    refine (fclamp_is E6.out _).mono ?_; rintro e w1 ⟨rfl, hb⟩
    have HB1 := Lib.hid (bthen HB.out hb); clear hb
    go_wp2_with fail
    refine (mod_rng _ _ _ hm1.out.1 hm1.out.2 f2.out.1 f2.out.2 E5.out).mono ?_; rintro e w2 ⟨rfl, rfl⟩
    go_wp2_with fail
    refine (fclamp_is E7.out _).mono ?_; rintro e w3 ⟨rfl, hb⟩
    have HB2 := Lib.hid (bthen HB1.out hb); clear hb
    go_wp2_with fail
    refine (sane_is _).mono ?_; rintro e w4 ⟨rfl, hb⟩
    have HB3 := Lib.hid (bthen HB2.out hb); clear hb
    go_wp2_with fail
    go_returns
    exact ⟨rfl, HB3.out⟩
theorem clamps_walk (v mx at_ : Int) (w : World) (f0 : -9223372036854775808 ≤ v ∧ v ≤ 9223372036854775807) (f1 : -9223372036854775808 ≤ mx ∧ mx ≤ 9223372036854775807) (f2 : -9223372036854775808 ≤ at_ ∧ at_ ≤ 9223372036854775807) :
    Calls Try.prog 6 #[.int .i64 v, .int .i64 mx, .int .i64 at_] w (TestPost true w) := by
  obtain ⟨m, em⟩ : ∃ m, mx % 1099511627776 = m := ⟨_, rfl⟩
  obtain ⟨n0, en⟩ : ∃ n, v % 4398046511104 = n := ⟨_, rfl⟩
  have bm : 0 ≤ m ∧ m < 1099511627776 := by omega
  have bn : 0 ≤ n0 ∧ n0 < 4398046511104 := by omega
  obtain ⟨x, ex⟩ : ∃ x, at_ % (m + 1) = x := ⟨_, rfl⟩
  have bx : 0 ≤ x ∧ x ≤ m := by
    have h1 := Int.emod_nonneg at_ (show m + 1 ≠ 0 by omega)
    have h2 := Int.emod_lt_of_pos at_ (show 0 < m + 1 by omega)
    omega
  obtain ⟨⟨c0, c1⟩, hd⟩ := dist_any (n := n0 - 2199023255552) (m := m) (x := x) bm.1 bx
  refine clamps_way v mx at_ m n0 (n0 - 2199023255552) _ x _ _ (m + 1) w (Lib.hid f0) (Lib.hid f1) (Lib.hid f2) (Lib.hid em) (Lib.hid en) ?_ ?_ (Lib.hid (by omega)) (Lib.hid ex) (Lib.hid rfl) (Lib.hid (clamp_in c0 c1)) ?_ ?_ ?_ ?_ c0 c1 (Lib.hid hd)
  all_goals (unfold wrap64; omega)
namespace fixedClamps
theorem own : ownKnob Try.prog.godebug = none := by kernel_rfl
theorem laid : laidOutB Try.prog = true := by kernel_rfl
theorem params_ok : ∀ t ∈ Try.f6.params.toList, Try.prog.readableRec t = true ∧ t < Try.prog.types.size := by
  rw [Try.params6]
  intro t ht
  simp at ht
  subst ht
  exact ⟨by kernel_rfl, of_decide_eq_true (by kernel_rfl)⟩
set_option maxRecDepth 100000 in
theorem lifted (os : Os) (started : os.Started) (H : Type) (enc : TypeId × Value → H) :
    ReturnsInHanded {} Try.checked os 6 .any (Rows.fixedClampsSpec.pre6 enc Try.prog Try.f6 Rows.fixedClampsRow.domain false) (Rows.fixedClampsSpec.post enc Try.prog Try.f6 false true false false) := by
  refine returnsInHanded_of_change (C := Try.checked) own started (by kernel_rfl) Try.func6
    (ChangeSpec.witness6 (enc := enc) (C := Try.checked) false ⟨#[], #[.int .i64 0, .int .i64 0, .int .i64 0], []⟩ 8 (by kernel_rfl) (by kernel_rfl) (by kernel_rfl) (by kernel_rfl)) ?_
  intro W base args ds gs before hval0 hW hcnd _
  have hval : ∀ (j : Nat) t v, Try.f6.params[j]? = some t → args[j]? = some v → Value.okWide Try.prog W .any base t v := hval0
  have hW' := hW
  obtain ⟨p, q, hA0, hV, rfl, hfz, hnd⟩ := hW
  have hA : DataW.TrodAll enc Try.prog W 0 (fun _ => true) true Try.f6.params.toList args.toList ds p := hA0
  rw [Try.params6] at hA hval
  obtain ⟨v0, vs0, d0, ds0, p0, q0, hargs, rfl, rfl, h0, r0⟩ := trodAll_cons hA
  obtain ⟨v1, vs1, d1, ds1, p1, q1, rfl, rfl, rfl, h1, r1⟩ := trodAll_cons r0
  obtain ⟨v2, vs2, d2, ds2, p2, q2, rfl, rfl, rfl, h2, r2⟩ := trodAll_cons r1
  obtain ⟨rfl, rfl, rfl⟩ := trodAll_nil r2
  obtain rfl : args = #[v0, v1, v2] := by cases args; simp_all
  obtain ⟨rfl, rfl⟩ := trodVars_none hV
  obtain ⟨i0, rfl, rfl, rfl, w0⟩ := open_int Try.underlying3 (hval 0 3 v0 rfl rfl) h0
  obtain ⟨i1, rfl, rfl, rfl, w1⟩ := open_int Try.underlying3 (hval 1 3 v1 rfl rfl) h1
  obtain ⟨i2, rfl, rfl, rfl, w2⟩ := open_int Try.underlying3 (hval 2 3 v2 rfl rfl) h2
  clear hA0 hval0
  have fin : Calls Try.prog 6 #[.int .i64 i0, .int .i64 i1, .int .i64 i2] W (TestPost true W) := clamps_walk i0 i1 i2 W (wf_bd w0) (wf_bd w1) (wf_bd w2)
  refine fin.mono fun e W' ⟨he, hb⟩ => ?_
  subst he
  exact ⟨_, rfl, law_post laid rfl Try.underlying4 params_ok rfl hW' rfl hb⟩

theorem over : Rows.fixedClampsRow.holds Try.pinned (OpenSpec.ofChange Rows.fixedClampsSpec) :=
  OpenClaim.holds_of_wide 6 Try.f6 rfl rfl rfl rfl rfl rfl rfl ⟨rfl, rfl, rfl, rfl, rfl⟩ rfl rfl rfl rfl rfl (by kernel_rfl) Try.func6 (by kernel_rfl)
    (of_decide_eq_true (by kernel_rfl)) (by unfold Func.isWrapper; first | (rw [if_pos (by decide +kernel)]; kernel_rfl) | (rw [if_neg (by decide +kernel)]; exact ⟨rfl, rfl⟩))
    (fun os started H enc _ => lifted os started H enc)

/-- the statement -/
theorem proved : Rows.FixedClampsSaid := over
#print axioms proved
end fixedClamps
end Go.Proofs.Ytngaocfokdlhaaa
