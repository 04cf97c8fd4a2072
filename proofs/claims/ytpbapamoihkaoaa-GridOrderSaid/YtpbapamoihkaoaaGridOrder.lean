/- For all seven ints the statement GridOrder returns true: tiles are numbered row by row. No condition on the numbers. -/
import Derived.Test.YtpbapamoihkaoaaGKit
import Derived.Test.YtpbapamoihkaoaaGLawPlain
namespace Go.Proofs.Ytpbapamoihkaoaa
open Go.ChangeShapes Go.WideShapes Go.ChangeAt Go.RowKit
set_option linter.unusedVariables false
set_option linter.unusedSimpArgs false

set_option maxRecDepth 100000 in
set_option maxHeartbeats 4000000 in
theorem order_walk (i0 i1 i2 i3 i4 i5 i6 : Int) (w : World) (f0 : -9223372036854775808 ≤ i0 ∧ i0 ≤ 9223372036854775807) (f1 : -9223372036854775808 ≤ i1 ∧ i1 ≤ 9223372036854775807) (f2 : -9223372036854775808 ≤ i2 ∧ i2 ≤ 9223372036854775807) (f3 : -9223372036854775808 ≤ i3 ∧ i3 ≤ 9223372036854775807) (f4 : -9223372036854775808 ≤ i4 ∧ i4 ≤ 9223372036854775807) (f5 : -9223372036854775808 ≤ i5 ∧ i5 ≤ 9223372036854775807) (f6 : -9223372036854775808 ≤ i6 ∧ i6 ≤ 9223372036854775807) :
    Calls Try.prog 3 #[.int .i64 i0, .int .i64 i1, .int .i64 i2, .int .i64 i3, .int .i64 i4, .int .i64 i5, .int .i64 i6] w (TestPost true w) := by
  obtain ⟨a, ea⟩ : ∃ a, i0 % 30 = a := ⟨_, rfl⟩
  obtain ⟨b, eb⟩ : ∃ b, i1 % 30 = b := ⟨_, rfl⟩
  obtain ⟨c, ec⟩ : ∃ c, i2 % 9 = c := ⟨_, rfl⟩
  obtain ⟨d, ed⟩ : ∃ d, i3 % 9 = d := ⟨_, rfl⟩
  obtain ⟨m, em⟩ : ∃ m, i6 % 12 = m := ⟨_, rfl⟩
  obtain ⟨u, eu⟩ : ∃ u, i4 % (1 + a) = u := ⟨_, rfl⟩
  obtain ⟨v, ev⟩ : ∃ v, i5 % (1 + b) = v := ⟨_, rfl⟩
  have ba : 0 ≤ a ∧ a < 30 := by omega
  have bb : 0 ≤ b ∧ b < 30 := by omega
  have bc : 0 ≤ c ∧ c < 9 := by omega
  have bd : 0 ≤ d ∧ d < 9 := by omega
  have bm : 0 ≤ m ∧ m < 12 := by omega
  have bu : 0 ≤ u ∧ u < 1 + a := by rw [← eu]; exact ⟨Int.emod_nonneg _ (by omega), Int.emod_lt_of_pos _ (by omega)⟩
  have bv : 0 ≤ v ∧ v < 1 + b := by rw [← ev]; exact ⟨Int.emod_nonneg _ (by omega), Int.emod_lt_of_pos _ (by omega)⟩
  have Ea := Lib.hid ea
  have Eb := Lib.hid eb
  have Ec := Lib.hid ec
  have Ed := Lib.hid ed
  have Em := Lib.hid em
  have Eu := Lib.hid eu
  have Ev := Lib.hid ev
  clear ea eb ec ed em eu ev
  obtain ⟨X, eX⟩ : ∃ X, min (u + m) (1 + a - 1) = X := ⟨_, rfl⟩
  obtain ⟨Y, eY⟩ : ∃ Y, min (v + m) (1 + b - 1) = Y := ⟨_, rfl⟩
  have hX : u ≤ X ∧ X < 1 + a := by omega
  have hY : v ≤ Y ∧ Y < 1 + b := by omega
  obtain ⟨C, R, n, p, q, A, B, eC, eR, en, ep, eq, o1, o2, o3, bn, bp, bq, bC, tq, tA, tB, bA, bB, hAB⟩ := order_names (a := 1 + a) (b := 1 + b) (c := 1 + c) (d := 1 + d) (u := u) (v := v) (X := X) (Y := Y) (by omega) (by omega) (by omega) (by omega) (by omega) (by omega)
  have EC := Lib.hid eC
  have ER := Lib.hid eR
  have En := Lib.hid en
  have Ep := Lib.hid ep
  have Eq := Lib.hid eq
  have O1 := Lib.hid o1
  have O2 := Lib.hid o2
  have O3 := Lib.hid o3
  have HAB := Lib.hid hAB
  have TQ := Lib.hid tq
  have TA := Lib.hid tA
  have TB := Lib.hid tB
  clear eC eR en ep eq o1 o2 o3 hAB tq tA tB
  go_enter Try.func3, Try.ntmps3
  go_wp2_with fail
  refine (mod_rng _ _ _ (by omega) (by omega) (by omega) (by omega) Ea.out).mono ?_; rintro e w1 ⟨rfl, rfl⟩
  go_wp2_with fail
  refine (mod_rng _ _ _ (by omega) (by omega) (by omega) (by omega) Eb.out).mono ?_; rintro e w1 ⟨rfl, rfl⟩
  go_wp2_with fail
  refine (mod_rng _ _ _ (by omega) (by omega) (by omega) (by omega) Ec.out).mono ?_; rintro e w1 ⟨rfl, rfl⟩
  go_wp2_with fail
  refine (mod_rng _ _ _ (by omega) (by omega) (by omega) (by omega) Ed.out).mono ?_; rintro e w1 ⟨rfl, rfl⟩
  go_wp2_with fail
  refine (mod_rng _ _ _ (by omega) (by omega) (by omega) (by omega) Eu.out).mono ?_; rintro e w1 ⟨rfl, rfl⟩
  go_wp2_with fail
  refine (mod_rng _ _ _ (by omega) (by omega) (by omega) (by omega) Ev.out).mono ?_; rintro e w1 ⟨rfl, rfl⟩
  go_wp2_with fail
  refine (gof_is En.out O1.out _).mono ?_; rintro e w1 ⟨rfl, hb1⟩
  go_wp2_with fail
  refine (mod_rng _ _ _ (by omega) (by omega) (by omega) (by omega) Em.out).mono ?_; rintro e w2 ⟨rfl, rfl⟩
  go_wp2_with fail
  refine (gof_is Ep.out O2.out _).mono ?_; rintro e w3 ⟨rfl, hb2⟩
  go_wp2_with fail
  refine (mod_rng _ _ _ (by omega) (by omega) (by omega) (by omega) Em.out).mono ?_; rintro e w4 ⟨rfl, rfl⟩
  go_wp2_with fail
  refine (gof_is Eq.out O3.out _).mono ?_; rintro e w5 ⟨rfl, hb3⟩
  go_wp2_with fail
  refine (count_is EC.out ER.out _).mono ?_; rintro e w6 ⟨rfl, rfl⟩
  have HBB := Lib.hid (bthen (bthen hb1 hb2) hb3)
  clear hb1 hb2 hb3
  go_upto_region 7 with fail
  obtain ⟨wx, ewx⟩ : ∃ wx, w5 = wx := ⟨_, rfl⟩
  have hO : Hid (Below w.heap.size w w5.drew) := Lib.hid (bthen HBB.out (bdrewN (bref w5) 1))
  clear ewx
  have c0 : (C == 0) = false := by simp; omega
  have c1 : ¬ C = 0 := by omega
  have c2 : n ≤ p := by omega
  have c3 : n ≤ q := by omega
  have s1 : IntKind.i64.wrap (p - n) = p - n := IntWalk.i64_in _ (by omega)
  have s2 : IntKind.i64.wrap (q - n) = q - n := IntWalk.i64_in _ (by omega)
  have s3 : IntKind.i64.wrap (v + m) = v + m := IntWalk.i64_in _ (by omega)
  have s4 : IntKind.i64.wrap (1 + b - 1) = 1 + b - 1 := IntWalk.i64_in _ (by omega)
  have s5 : IntKind.i64.wrap A = A := IntWalk.i64_in _ (by omega)
  have s6 : IntKind.i64.wrap B = B := IntWalk.i64_in _ (by omega)
  have s7 : IntKind.i64.wrap 0 = 0 := IntWalk.i64_in _ (by omega)
  have tq := TQ.out
  have tA := TA.out
  have tB := TB.out
  have d0 : ¬ 1 + d = 0 := by omega
  obtain ⟨z, hz1, hz2⟩ : ∃ z : Bool, (q == n) = z ∧ (A == B) = z := by
    rcases HAB.out with ⟨h1, h2⟩ | ⟨h1, h2⟩
    · exact ⟨true, by simp [h1], by simp [h2]⟩
    · exact ⟨false, by simp [h1], by simp [h2]⟩
  first | go_must (go_region_held3 (fun w' => Hid (Below w.heap.size w w')) ((first | with_reducible exact hO | with_reducible exact hid_below hb ‹_›))
    (first
      | (go_at_call 7; refine (mod_rng _ _ _ (by omega) (by omega) (by omega) (by omega) Em.out).mono ?_; rintro e w7 ⟨rfl, rfl⟩)
      | (go_at_call 10; refine (sane_any _).mono ?_; rintro e w8 ⟨rfl, hb⟩))) | skip
  all_goals
    have hfin := Lib.hid (show Hid (Below w.heap.size w _) from ‹_›).out
    go_wp2_with fail
    go_ret
    exact ⟨rfl, hfin.out⟩
namespace gridOrder
theorem own : ownKnob Try.prog.godebug = none := by kernel_rfl
theorem laid : laidOutB Try.prog = true := by kernel_rfl
theorem params_ok : ∀ t ∈ Try.f3.params.toList, Try.prog.readableRec t = true ∧ t < Try.prog.types.size := by
  rw [Try.params3]
  intro t ht
  simp at ht
  subst ht
  exact ⟨by kernel_rfl, of_decide_eq_true (by kernel_rfl)⟩
set_option maxRecDepth 100000 in
theorem lifted (os : Os) (started : os.Started) (H : Type) (enc : TypeId × Value → H) :
    ReturnsInHanded {} Try.checked os 3 .any (Rows.gridOrderSpec.pre6 enc Try.prog Try.f3 Rows.gridOrderRow.domain false) (Rows.gridOrderSpec.post enc Try.prog Try.f3 false true false false) := by
  refine returnsInHanded_of_change (C := Try.checked) own started (by kernel_rfl) Try.func3
    (ChangeSpec.witness6 (enc := enc) (C := Try.checked) false ⟨#[], #[.int .i64 0, .int .i64 0, .int .i64 0, .int .i64 0, .int .i64 0, .int .i64 0, .int .i64 0], []⟩ 8 (by kernel_rfl) (by kernel_rfl) (by kernel_rfl) (by kernel_rfl)) ?_
  intro W base args ds gs before hval0 hW hcnd _
  have hval : ∀ (j : Nat) t v, Try.f3.params[j]? = some t → args[j]? = some v → Value.okWide Try.prog W .any base t v := hval0
  have hW' := hW
  obtain ⟨p, q, hA0, hV, rfl, hfz, hnd⟩ := hW
  have hA : DataW.TrodAll enc Try.prog W 0 (fun _ => true) true Try.f3.params.toList args.toList ds p := hA0
  rw [Try.params3] at hA hval
  obtain ⟨v0, vs0, d0, ds0, p0, q0, hargs, rfl, rfl, h0, r0⟩ := trodAll_cons hA
  obtain ⟨v1, vs1, d1, ds1, p1, q1, rfl, rfl, rfl, h1, r1⟩ := trodAll_cons r0
  obtain ⟨v2, vs2, d2, ds2, p2, q2, rfl, rfl, rfl, h2, r2⟩ := trodAll_cons r1
  obtain ⟨v3, vs3, d3, ds3, p3, q3, rfl, rfl, rfl, h3, r3⟩ := trodAll_cons r2
  obtain ⟨v4, vs4, d4, ds4, p4, q4, rfl, rfl, rfl, h4, r4⟩ := trodAll_cons r3
  obtain ⟨v5, vs5, d5, ds5, p5, q5, rfl, rfl, rfl, h5, r5⟩ := trodAll_cons r4
  obtain ⟨v6, vs6, d6, ds6, p6, q6, rfl, rfl, rfl, h6, r6⟩ := trodAll_cons r5
  obtain ⟨rfl, rfl, rfl⟩ := trodAll_nil r6
  obtain rfl : args = #[v0, v1, v2, v3, v4, v5, v6] := by cases args; simp_all
  obtain ⟨rfl, rfl⟩ := trodVars_none hV
  obtain ⟨i0, rfl, rfl, rfl, w0⟩ := open_int Try.underlying3 (hval 0 3 v0 rfl rfl) h0
  obtain ⟨i1, rfl, rfl, rfl, w1⟩ := open_int Try.underlying3 (hval 1 3 v1 rfl rfl) h1
  obtain ⟨i2, rfl, rfl, rfl, w2⟩ := open_int Try.underlying3 (hval 2 3 v2 rfl rfl) h2
  obtain ⟨i3, rfl, rfl, rfl, w3⟩ := open_int Try.underlying3 (hval 3 3 v3 rfl rfl) h3
  obtain ⟨i4, rfl, rfl, rfl, w4⟩ := open_int Try.underlying3 (hval 4 3 v4 rfl rfl) h4
  obtain ⟨i5, rfl, rfl, rfl, w5⟩ := open_int Try.underlying3 (hval 5 3 v5 rfl rfl) h5
  obtain ⟨i6, rfl, rfl, rfl, w6⟩ := open_int Try.underlying3 (hval 6 3 v6 rfl rfl) h6
  clear hA0 hval0
  have fin : Calls Try.prog 3 #[.int .i64 i0, .int .i64 i1, .int .i64 i2, .int .i64 i3, .int .i64 i4, .int .i64 i5, .int .i64 i6] W (TestPost true W) := order_walk i0 i1 i2 i3 i4 i5 i6 W (wf_bd w0) (wf_bd w1) (wf_bd w2) (wf_bd w3) (wf_bd w4) (wf_bd w5) (wf_bd w6)
  refine fin.mono fun e W' ⟨he, hb⟩ => ?_
  subst he
  exact ⟨_, rfl, law_post laid rfl Try.underlying4 params_ok rfl hW' rfl hb⟩

theorem over : Rows.gridOrderRow.holds Try.pinned (OpenSpec.ofChange Rows.gridOrderSpec) :=
  OpenClaim.holds_of_wide 3 Try.f3 rfl rfl rfl rfl rfl rfl rfl ⟨rfl, rfl, rfl, rfl, rfl⟩ rfl rfl rfl rfl rfl (by kernel_rfl) Try.func3 (by kernel_rfl)
    (of_decide_eq_true (by kernel_rfl)) (by unfold Func.isWrapper; first | (rw [if_pos (by decide +kernel)]; kernel_rfl) | (rw [if_neg (by decide +kernel)]; exact ⟨rfl, rfl⟩))
    (fun os started H enc _ => lifted os started H enc)

/-- the statement -/
theorem proved : Rows.GridOrderSaid := over
#print axioms proved
end gridOrder
end Go.Proofs.Ytpbapamoihkaoaa
