/- For all four ints the statement FixedShifts returns true: round shifts, clamped numbers and spans are those of the reference. No condition on them. -/
import Derived.Test.YtngaocfokdlhaaaHKit
namespace Go.Proofs.Ytngaocfokdlhaaa
open Go.ChangeShapes Go.WideShapes Go.ChangeAt Go.RowKit
set_option linter.unusedVariables false
set_option linter.unusedSimpArgs false

set_option maxRecDepth 100000 in
set_option maxHeartbeats 4000000 in
theorem shifts_way (a b s mx a1 a2 b1 b2 s1 m1 : Int) (w : World) (f0 : Hid (-9223372036854775808 ≤ a ∧ a ≤ 9223372036854775807)) (f1 : Hid (-9223372036854775808 ≤ b ∧ b ≤ 9223372036854775807)) (f2 : Hid (-9223372036854775808 ≤ s ∧ s ≤ 9223372036854775807)) (f3 : Hid (-9223372036854775808 ≤ mx ∧ mx ≤ 9223372036854775807))
    (E1 : Hid (a % 2000 = a1)) (e2 : wrap64 (a1 - 1000) = a2) (E3 : Hid (b % 70368744177664 = b1)) (e4 : wrap64 (b1 - 35184372088832) = b2) (E5 : Hid (s % 25 = s1)) (E6 : Hid (mx % 500 = m1)) :
    Calls Try.prog 3 #[.int .i64 a, .int .i64 b, .int .i64 s, .int .i64 mx] w (TestPost true w) := by
  go_enter Try.func3, Try.ntmps3
  go_wp2_with fail
  refine (mod_rng _ _ _ (by decide) (by decide) f0.out.1 f0.out.2 E1.out).mono ?_; rintro e w1 ⟨rfl, rfl⟩
  go_wp2_with fail
  refine (mod_rng _ _ _ (by decide) (by decide) f1.out.1 f1.out.2 E3.out).mono ?_; rintro e w1 ⟨rfl, rfl⟩
  go_upto_region 2 with fail
  obtain ⟨g, eg⟩ : ∃ g, w.heap.size = g := ⟨_, rfl⟩
  obtain ⟨wl, ewl⟩ : ∃ wl, w.alloc (.cells #[.int .i64 a, .int .i64 b, .int .i64 a2, .int .i64 b2] 3) = wl := ⟨_, rfl⟩
  have HC : Hid (∀ j, j < 4 → wl.cell? ⟨g, j, none⟩ = some (.int .i64 ([a, b, a2, b2].getD j 0))) := Lib.hid (by
    intro j hj
    rw [← ewl, ← eg, World.cell?_alloc_new]
    rcases (show j = 0 ∨ j = 1 ∨ j = 2 ∨ j = 3 by omega) with rfl | rfl | rfl | rfl <;> rfl)
  have HW : Hid (Below w.heap.size w wl) := Lib.hid (by rw [← ewl]; exact balloc (bref _) _)
  rw [eg]
  simp only [ewl]
  clear ewl eg
  obtain ⟨L, eL⟩ : ∃ L, [a, b, a2, b2] = L := ⟨_, rfl⟩
  rw [eL] at HC
  clear eL e2 e4
  go_loopw [27] (fun i wr => ∃ k : Nat, k ≤ 4 ∧ i = .int .i64 k ∧ Hid (Below wl.heap.size wl wr)) (fun i _ => 4 - (intOf i).toNat)
  case atStart => exact ⟨0, by omega, rfl, Lib.hid (bref _)⟩
  case round =>
    obtain ⟨k, hk, rfl, HR⟩ := hrel
    by_cases hlt : k < 4
    · have hkI : (k : Int) < 4 := by omega
      obtain ⟨v, ev⟩ : ∃ v, L.getD k 0 = v := ⟨_, rfl⟩
      have hcell : wr.cell? ⟨g, k, none⟩ = some (.int .i64 v) := bkeep HR.out (by rw [← ev]; exact HC.out k hlt)
      clear ev
      go_wp2_with fail
      refine (mod_rng _ _ _ (by decide) (by decide) f2.out.1 f2.out.2 E5.out).mono ?_; rintro e w1 ⟨rfl, rfl⟩
      go_upto_region 5 with fail
      obtain ⟨q, eq⟩ : ∃ q, wr.heap.size = q := ⟨_, rfl⟩
      obtain ⟨wi, ewi⟩ : ∃ wi, wr.alloc (.cells #[.int .i64 s, .int .i64 s1, .int .i64 1] 3) = wi := ⟨_, rfl⟩
      have HCi : Hid (∀ j, j < 3 → wi.cell? ⟨q, j, none⟩ = some (.int .i64 ([s, s1, 1].getD j 0))) := Lib.hid (by
        intro j hj
        rw [← ewi, ← eq, World.cell?_alloc_new]
        rcases (show j = 0 ∨ j = 1 ∨ j = 2 by omega) with rfl | rfl | rfl <;> rfl)
      have HRi : Hid (Below wl.heap.size wl wi) := Lib.hid (by rw [← ewi]; exact balloc HR.out _)
      rw [eq]
      simp only [ewi]
      clear ewi eq hcell HR
      obtain ⟨K, eK⟩ : ∃ K, [s, s1, 1] = K := ⟨_, rfl⟩
      rw [eK] at HCi
      clear eK
      go_loopw [36] (fun i wr => ∃ j : Nat, j ≤ 3 ∧ i = .int .i64 j ∧ Hid (Below wi.heap.size wi wr)) (fun i _ => 3 - (intOf i).toNat)
      case atStart => exact ⟨0, by omega, rfl, Lib.hid (bref _)⟩
      case round =>
        obtain ⟨j, hj, rfl, HJ⟩ := hrel
        by_cases hltj : j < 3
        · have hjI : (j : Int) < 3 := by omega
          obtain ⟨u, eu⟩ : ∃ u, K.getD j 0 = u := ⟨_, rfl⟩
          have hcell : wr.cell? ⟨q, j, none⟩ = some (.int .i64 u) := bkeep HJ.out (by rw [← eu]; exact HCi.out j hltj)
          clear eu
          obtain ⟨X, eX⟩ : ∃ X, shiftN v u = X := ⟨_, rfl⟩
          obtain ⟨Y, eY⟩ : ∃ Y, shiftN b u = Y := ⟨_, rfl⟩
          have EX := Lib.hid eX
          have EY := Lib.hid eY
          clear eX eY
          go_wp2_with fail
          refine (fspan_is EX.out EY.out _).mono ?_; rintro e w3 ⟨rfl, hb⟩
          have HJ2 := Lib.hid (bthen HJ.out hb); clear hb hcell
          go_wp2_with fail
          refine (rspan_is EX.out EY.out _).mono ?_; rintro e w4 ⟨rfl, rfl⟩
          go_wp2_with fail
          refine (fshift_is EX.out _).mono ?_; rintro e w4 ⟨rfl, hb⟩
          have HJ3 := Lib.hid (bthen HJ2.out hb); clear hb
          go_wp2_with fail
          refine (rshift_is EX.out _).mono ?_; rintro e w5 ⟨rfl, rfl⟩
          go_wp2_with fail
          go_roundw
          case rel => exact ⟨j + 1, by omega, by go_num, HJ3⟩
          case measure => simp [intOf]; omega
        · obtain rfl : j = 3 := by omega
          have HR2 := Lib.hid (bthen HRi.out HJ.out)
          clear HJ HRi
          obtain ⟨X, eX⟩ : ∃ X, clampN v mx = X := ⟨_, rfl⟩
          obtain ⟨Y, eY⟩ : ∃ Y, clampN v m1 = Y := ⟨_, rfl⟩
          have EX := Lib.hid eX
          have EY := Lib.hid eY
          clear eX eY
          go_wp2_with fail
          refine (fclamp_is EX.out _).mono ?_; rintro e w3 ⟨rfl, hb⟩
          have HR3 := Lib.hid (bthen HR2.out hb); clear hb
          go_wp2_with fail
          refine (rclamp_is EX.out _).mono ?_; rintro e w4 ⟨rfl, rfl⟩
          go_wp2_with fail
          refine (mod_rng _ _ _ (by decide) (by decide) f3.out.1 f3.out.2 E6.out).mono ?_; rintro e w4 ⟨rfl, rfl⟩
          go_wp2_with fail
          refine (fclamp_is EY.out _).mono ?_; rintro e w4 ⟨rfl, hb⟩
          have HR4 := Lib.hid (bthen HR3.out hb); clear hb
          go_wp2_with fail
          refine (mod_rng _ _ _ (by decide) (by decide) f3.out.1 f3.out.2 E6.out).mono ?_; rintro e w5 ⟨rfl, rfl⟩
          go_wp2_with fail
          refine (rclamp_is EY.out _).mono ?_; rintro e w5 ⟨rfl, rfl⟩
          go_wp2_with fail
          go_roundw
          case rel => exact ⟨k + 1, by omega, by go_num, HR4⟩
          case measure => simp [intOf]; omega
    · obtain rfl : k = 4 := by omega
      go_wp2_with fail
      refine (sane_is _).mono ?_; rintro e w6 ⟨rfl, hb⟩
      have hfin := Lib.hid (bthen (bthen HW.out HR.out) hb)
      clear hb
      go_wp2_with fail
      go_returns
      exact ⟨rfl, hfin.out⟩
theorem shifts_walk (a b s mx : Int) (w : World) (f0 : -9223372036854775808 ≤ a ∧ a ≤ 9223372036854775807) (f1 : -9223372036854775808 ≤ b ∧ b ≤ 9223372036854775807) (f2 : -9223372036854775808 ≤ s ∧ s ≤ 9223372036854775807) (f3 : -9223372036854775808 ≤ mx ∧ mx ≤ 9223372036854775807) :
    Calls Try.prog 3 #[.int .i64 a, .int .i64 b, .int .i64 s, .int .i64 mx] w (TestPost true w) := by
  obtain ⟨a1, ea⟩ : ∃ r, a % 2000 = r := ⟨_, rfl⟩
  obtain ⟨b1, eb⟩ : ∃ r, b % 70368744177664 = r := ⟨_, rfl⟩
  have ba : 0 ≤ a1 ∧ a1 < 2000 := by omega
  have bb : 0 ≤ b1 ∧ b1 < 70368744177664 := by omega
  exact shifts_way a b s mx a1 _ b1 _ _ _ w (Lib.hid f0) (Lib.hid f1) (Lib.hid f2) (Lib.hid f3) (Lib.hid ea) rfl (Lib.hid eb) rfl (Lib.hid rfl) (Lib.hid rfl)
namespace fixedShifts
theorem own : ownKnob Try.prog.godebug = none := by kernel_rfl
theorem laid : laidOutB Try.prog = true := by kernel_rfl
theorem params_ok : ∀ t ∈ Try.f3.params.toList, Try.prog.readableRec t = true ∧ t < Try.prog.types.size := by
  rw [Try.params3]
  intro t ht
  simp at ht
  subst ht
  exact ⟨by kernel_rfl, of_decide_eq_true (by kernel_rfl)⟩
set_option maxRecDepth 100000 in
theorem lifted (os : Os) (started : os.Started) (H : Type) (enc : TypeId × Value → H) :
    ReturnsInHanded {} Try.checked os 3 .any (Rows.fixedShiftsSpec.pre6 enc Try.prog Try.f3 Rows.fixedShiftsRow.domain false) (Rows.fixedShiftsSpec.post enc Try.prog Try.f3 false true false false) := by
  refine returnsInHanded_of_change (C := Try.checked) own started (by kernel_rfl) Try.func3
    (ChangeSpec.witness6 (enc := enc) (C := Try.checked) false ⟨#[], #[.int .i64 0, .int .i64 0, .int .i64 0, .int .i64 0], []⟩ 8 (by kernel_rfl) (by kernel_rfl) (by kernel_rfl) (by kernel_rfl)) ?_
  intro W base args ds gs before hval0 hW hcnd _
  have hval : ∀ (j : Nat) t v, Try.f3.params[j]? = some t → args[j]? = some v → Value.okWide Try.prog W .any base t v := hval0
  have hW' := hW
  obtain ⟨p, q, hA0, hV, rfl, hfz, hnd⟩ := hW
  have hA : DataW.TrodAll enc Try.prog W 0 (fun _ => true) true Try.f3.params.toList args.toList ds p := hA0
  rw [Try.params3] at hA hval
  obtain ⟨v0, vs0, d0, ds0, p0, q0, hargs, rfl, rfl, h0, r0⟩ := trodAll_cons hA
  obtain ⟨v1, vs1, d1, ds1, p1, q1, rfl, rfl, rfl, h1, r1⟩ := trodAll_cons r0
  obtain ⟨v2, vs2, d2, ds2, p2, q2, rfl, rfl, rfl, h2, r2⟩ := trodAll_cons r1
  obtain ⟨v3, vs3, d3, ds3, p3, q3, rfl, rfl, rfl, h3, r3⟩ := trodAll_cons r2
  obtain ⟨rfl, rfl, rfl⟩ := trodAll_nil r3
  obtain rfl : args = #[v0, v1, v2, v3] := by cases args; simp_all
  obtain ⟨rfl, rfl⟩ := trodVars_none hV
  obtain ⟨i0, rfl, rfl, rfl, w0⟩ := open_int Try.underlying3 (hval 0 3 v0 rfl rfl) h0
  obtain ⟨i1, rfl, rfl, rfl, w1⟩ := open_int Try.underlying3 (hval 1 3 v1 rfl rfl) h1
  obtain ⟨i2, rfl, rfl, rfl, w2⟩ := open_int Try.underlying3 (hval 2 3 v2 rfl rfl) h2
  obtain ⟨i3, rfl, rfl, rfl, w3⟩ := open_int Try.underlying3 (hval 3 3 v3 rfl rfl) h3
  clear hA0 hval0
  have fin : Calls Try.prog 3 #[.int .i64 i0, .int .i64 i1, .int .i64 i2, .int .i64 i3] W (TestPost true W) := shifts_walk i0 i1 i2 i3 W (wf_bd w0) (wf_bd w1) (wf_bd w2) (wf_bd w3)
  refine fin.mono fun e W' ⟨he, hb⟩ => ?_
  subst he
  exact ⟨_, rfl, law_post laid rfl Try.underlying4 params_ok rfl hW' rfl hb⟩

theorem over : Rows.fixedShiftsRow.holds Try.pinned (OpenSpec.ofChange Rows.fixedShiftsSpec) :=
  OpenClaim.holds_of_wide 3 Try.f3 rfl rfl rfl rfl rfl rfl rfl ⟨rfl, rfl, rfl, rfl, rfl⟩ rfl rfl rfl rfl rfl (by kernel_rfl) Try.func3 (by kernel_rfl)
    (of_decide_eq_true (by kernel_rfl)) (by unfold Func.isWrapper; first | (rw [if_pos (by decide +kernel)]; kernel_rfl) | (rw [if_neg (by decide +kernel)]; exact ⟨rfl, rfl⟩))
    (fun os started H enc _ => lifted os started H enc)

/-- the statement -/
theorem proved : Rows.FixedShiftsSaid := over
#print axioms proved
end fixedShifts
end Go.Proofs.Ytngaocfokdlhaaa
