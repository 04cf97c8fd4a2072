/- The statement ExtentMul: for every three ints the law function returns true and leaves its arguments as they were. No condition. -/
import Derived.Test.YtigenddmphfjlaaNear
import Derived.BigQuiet
import Derived.Deep.QuietTactic
import Derived.WalkKit
import Derived.ProofKit
import Derived.OpenShut
namespace Go.Proofs.Ytigenddmphfjlaa.extentMul
open Go.ChangeShapes Go.WideShapes Go.ChangeAt Go.RowKit
set_option linter.unusedVariables false      -- a walk need not use every 'w<i>' (that an integer argument fits its kind)

theorem own : ownKnob Try.prog.godebug = none := by kernel_rfl

/-! ### STEP 1: THE WALK: the Go text returns true. 'Grown w w'': the world has at most new blocks (Derived/RowKit3.lean). Part the cases AHEAD of 'go_enter' where a test parts the walk; take each callee by a contract of your own. -/
theorem walk (a0 : Int) (a1 : Int) (a2 : Int) (w0 : (Lit.int .i64 a0).wf = true) (w1 : (Lit.int .i64 a1).wf = true) (w2 : (Lit.int .i64 a2).wf = true) (w : World) :
    Calls Try.prog 3 #[.int .i64 a0, .int .i64 a1, .int .i64 a2] w fun e w' => e = .returned (.bool true) ∧ Grown w w' := by
  obtain ⟨p0, p1⟩ := wf_bd w0
  obtain ⟨q0, q1⟩ := wf_bd w1
  obtain ⟨r0, r1⟩ := wf_bd w2
  go_enter Try.func3, Try.ntmps3
  go_wp2_with fail
  refine (near_row _ _ p0 p1).mono ?_
  rintro e wa ⟨rfl, HA⟩
  go_wp2_with fail
  refine (near_row _ _ q0 q1).mono ?_
  rintro e wb ⟨rfl, HB⟩
  go_wp2_with fail
  refine (near_row _ _ r0 r1).mono ?_
  rintro e wc ⟨rfl, HC⟩
  obtain ⟨hg, hA, hB, hC⟩ := near3 HA HB HC
  clear HA HB HC
  have hA' := Lib.hid hA
  have hB' := Lib.hid hB
  have hC' := Lib.hid hC
  clear hA hB hC
  go_wp2
  go_loopw [10] (fun i wr => ∃ k : Nat, k ≤ 4 ∧ i = .int .i64 k ∧ ∃ n, wr = wc.drewN n) (fun i _ => 4 - (intOf i).toNat)
  case atStart => exact ⟨0, by omega, rfl, 0, rfl⟩
  case round =>
    obtain ⟨i, hi, rfl, n, rfl⟩ := hrel
    by_cases hlt : i < 4
    · have cA := hA'.out i hlt
      obtain ⟨A0, A1⟩ := nearV_bd a0 i p0 p1
      obtain ⟨X, eX⟩ : ∃ X, nearV a0 i = X := ⟨_, rfl⟩
      rw [eX] at cA A0 A1
      clear eX
      have hd : decide ((i : Int) < 4) = true := decide_eq_true (by omega)
      go_wp2
      clear hd
      have hi4 : (i : Int) < 4 := by omega
      obtain ⟨wo, ewo⟩ : ∃ wo : World, wo = wc.drewN n := ⟨_, rfl⟩
      rw [← ewo]
      have Hwo := Lib.hid ewo
      clear ewo
      go_loopw [11] (fun j wr => ∃ k : Nat, k ≤ 4 ∧ j = .int .i64 k ∧ ∃ n, wr = wc.drewN n) (fun j _ => 4 - (intOf j).toNat)
      case atStart => exact ⟨0, by omega, rfl, n, Hwo.out⟩
      case round =>
        obtain ⟨j, hj, rfl, n', rfl⟩ := hrel
        by_cases hjt : j < 4
        · have cB := hB'.out j hjt
          obtain ⟨B0, B1⟩ := nearV_bd a1 j q0 q1
          obtain ⟨Y, eY⟩ : ∃ Y, nearV a1 j = Y := ⟨_, rfl⟩
          rw [eY] at cB B0 B1
          clear eY
          obtain ⟨m, hm, hs⟩ := index_of i j hlt hjt
          have hm0 : (0 : Int) ≤ m := Int.natCast_nonneg m
          have hm4 : (m : Int) < 4 := Int.ofNat_lt.mpr hm
          have cC := hC'.out m hm
          obtain ⟨C0, C1⟩ := nearV_bd a2 m r0 r1
          obtain ⟨Z, eZ⟩ : ∃ Z, nearV a2 m = Z := ⟨_, rfl⟩
          rw [eZ] at cC C0 C1
          clear eZ
          go_wp2
          go_quiet ((go_at_call 9; exact quiet_add (mul_q _ _ _ _ A0 A1 B0 B1 C0 C1)))
          go_wp2
          go_quiet ((go_at_call 10; exact quiet_add (rmul_q _ _ _ _ A0 A1 B0 B1 C0 C1)))
          go_wp2
          go_roundw
          case rel => exact ⟨j + 1, hjt, by go_num, _, rfl⟩
          case measure => clear hs; simp [intOf]; omega
        · go_wp2
          go_roundw
          case rel => exact ⟨i + 1, hlt, by go_num, _, rfl⟩
          case measure => simp [intOf]; omega
    · go_wp2_with (go_at_call 11; refine (sane_any _).mono ?_; rintro e w' ⟨rfl, hz⟩)
      go_ret
      exact ⟨rfl, grown_trans (grown_drewN hg _) hz⟩

/-! ### THE ROW's STEP: WRITTEN OUT: LEAVE IT -/
set_option maxRecDepth 100000 in
theorem lifted (os : Os) (started : os.Started) (H : Type) (enc : TypeId × Value → H) :
    ReturnsInHanded {} Try.checked os 3 .any (Rows.extentMulSpec.pre6 enc Try.prog Try.f3 Rows.extentMulRow.domain false) (Rows.extentMulSpec.post enc Try.prog Try.f3 false true false false) := by
  refine returnsInHanded_of_change (C := Try.checked) own started (by kernel_rfl) Try.func3
    (ChangeSpec.witness6 (enc := enc) (C := Try.checked) false ⟨#[], #[.int .i64 0, .int .i64 0, .int .i64 0], []⟩ 8 (by kernel_rfl) (by kernel_rfl) (by kernel_rfl) (by kernel_rfl)) ?_
  intro W base args ds gs before hval0 hW hcnd _
  have hval : ∀ (j : Nat) t v, Try.f3.params[j]? = some t → args[j]? = some v → Value.okWide Try.prog W .any base t v := hval0
  have hW' := hW
  obtain ⟨p, q, hA0, hV, rfl, hfz, hnd⟩ := hW
  have hA : DataW.TrodAll enc Try.prog W 0 (fun _ => true) true Try.f3.params.toList args.toList ds p := hA0
  rw [Try.params3] at hA hval
  obtain ⟨v0, vs0, d0, ds0, p0, q0, hargs, rfl, rfl, h0, r0⟩ := trodAll_cons hA
  obtain ⟨v1, vs1, d1, ds1, p1, q1, rfl, rfl, rfl, h1, r1⟩ := trodAll_cons r0
  obtain ⟨v2, vs2, d2, ds2, p2, q2, rfl, rfl, rfl, h2, r2⟩ := trodAll_cons r1
  obtain ⟨rfl, rfl, rfl⟩ := trodAll_nil r2
  obtain rfl : args = #[v0, v1, v2] := by cases args; simp_all
  obtain ⟨rfl, rfl⟩ := trodVars_none hV
  obtain ⟨a0, rfl, rfl, rfl, w0⟩ := open_int Try.underlying3 (hval 0 3 v0 rfl rfl) h0
  obtain ⟨a1, rfl, rfl, rfl, w1⟩ := open_int Try.underlying3 (hval 1 3 v1 rfl rfl) h1
  obtain ⟨a2, rfl, rfl, rfl, w2⟩ := open_int Try.underlying3 (hval 2 3 v2 rfl rfl) h2
  clear hA0 hval0
  simp only [List.append_nil] at hW'
  refine (walk a0 a1 a2 w0 w1 w2 W).mono fun e W' ⟨he, hg⟩ => ?_
  subst he
  exact ⟨_, rfl, post_of_same (pa := []) (pv := []) hW' (fun _ _ _ => (trodAll_cons_mk (shut_bool Try.underlying4 _) trodAll_mk0)) (fun sp _ => (trodAll_cons_mk (shut_int Try.underlying3 w0) (trodAll_cons_mk (shut_int Try.underlying3 w1) (trodAll_cons_mk (shut_int Try.underlying3 w2) trodAll_mk0)))) (fun _ _ => rfl) rfl
    (hg.frame _) hg.2.1 (ok_one (by kernel_rfl) rfl (okWide_bool_mk Try.underlying4 _))⟩

theorem over : Rows.extentMulRow.holds Try.pinned (OpenSpec.ofChange Rows.extentMulSpec) :=
  OpenClaim.holds_of_wide 3 Try.f3 rfl rfl rfl rfl rfl rfl rfl ⟨rfl, rfl, rfl, rfl, rfl⟩ rfl rfl rfl rfl rfl (by kernel_rfl) Try.func3 (by kernel_rfl)
    (of_decide_eq_true (by kernel_rfl)) (by unfold Func.isWrapper; first | (rw [if_pos (by decide +kernel)]; kernel_rfl) | (rw [if_neg (by decide +kernel)]; exact ⟨rfl, rfl⟩))
    (fun os started H enc _ => lifted os started H enc)

/-- ████ THE STATEMENT ████ -/
theorem proved : Rows.ExtentMulSaid :=
  over
#print axioms proved
end Go.Proofs.Ytigenddmphfjlaa.extentMul
