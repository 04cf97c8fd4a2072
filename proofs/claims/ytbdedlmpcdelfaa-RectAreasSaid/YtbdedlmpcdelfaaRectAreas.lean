/- The statement RectAreas: for every list of ints the law function returns true and leaves its argument as it was. No condition. -/
import Derived.Test.YtbdedlmpcdelfaaList
import Derived.Test.YtbdedlmpcdelfaaRIs
import Derived.Test.YtbdedlmpcdelfaaRect
import Derived.Test.YtbdedlmpcdelfaaRAreaPlain
namespace Go.Proofs.Ytbdedlmpcdelfaa
open Go.ChangeShapes Go.WideShapes Go.ChangeAt Go.RowKit
set_option linter.unusedVariables false
set_option linter.unusedSimpArgs false

set_option maxRecDepth 100000 in
set_option maxHeartbeats 4000000 in
theorem areas_walk (xs : List Int) (a0 : Option Addr) (cap : Nat) (w : World) (hs : SliceIs w a0 xs) (hf : Fits xs) (hl : xs.length ≤ 9223372036854775807) :
    Calls Try.prog 6 #[.slice a0 xs.length cap] w (TestPost true w) := by
  have hs' := Lib.hid hs
  have hf' := Lib.hid hf
  have hl' := Lib.hid hl
  clear hs hf hl
  go_enter Try.func6, Try.ntmps6
  go_wp2_with fail
  refine (new_any a0 cap xs _ hs'.out hf'.out hl'.out).mono ?_; rintro e w1 ⟨rfl, hT⟩
  replace hT : Hid (TapeSome w w1 w.heap.size a0 cap xs) := Lib.hid ⟨0, hT⟩
  go_wp2_with fail
  refine (rect_some w w.heap.size a0 cap xs _ hT.out).mono ?_; rintro e w2 ⟨a, b, c, d, rfl, hbd, hT2, hg⟩; replace hT2 := Lib.hid hT2; clear hg hT hbd
  go_wp2_with fail
  refine (rect_some w w.heap.size a0 cap xs _ hT2.out).mono ?_; rintro e w3 ⟨a', b', c', d', rfl, hbd, hT3, hg⟩; replace hT3 := Lib.hid hT3; clear hg hT2 hbd
  have HB := Lib.hid (show Below w.heap.size w w3 from by obtain ⟨k, hk⟩ := hT3.out; exact hk.below)
  have hS := Lib.hid (inS_start0 w3 a b c d a' b' c' d' 26 26)
  clear hT3 hs' hf' hl'
  go_upto_region 3 with fail
  obtain ⟨w4, e4⟩ : ∃ w4, w4 = (w3.alloc (.cells #[.int .i64 a, .int .i64 b, .int .i64 c, .int .i64 d] 26)).alloc (.cells #[.int .i64 a', .int .i64 b', .int .i64 c', .int .i64 d'] 26) := ⟨_, rfl⟩
  rw [← e4] at hS ⊢
  clear e4
  obtain ⟨-, k1, k2, k3, k4, k5, k6, k7, k8⟩ := hS.out
  rcases hv : validB a b c d with _ | _
  · have hv' := Lib.hid hv
    clear hv
    go_wp2_with fail
    refine (rvalid_is hv'.out _).mono ?_; rintro e w5 ⟨rfl, hb⟩
    replace hS := Lib.hid (inS_keep hb hS.out)
    clear hb k1 k2 k3 k4 k5 k6 k7 k8
    go_wp2_with fail
    refine (sane_any _).mono ?_; rintro e w6 ⟨rfl, hb⟩
    go_wp2_with fail
    go_ret
    exact ⟨rfl, bthen (bthen HB.out hS.out.1) hb⟩
  · rcases hu : validB a' b' c' d' with _ | _
    · have hv' := Lib.hid hv
      have hu' := Lib.hid hu
      clear hv hu
      go_wp2_with fail
      refine (rvalid_is hv'.out _).mono ?_; rintro e w5 ⟨rfl, hb⟩
      replace hS := Lib.hid (inS_keep hb hS.out)
      clear hb k1 k2 k3 k4 k5 k6 k7 k8
      obtain ⟨-, k1, k2, k3, k4, k5, k6, k7, k8⟩ := hS.out
      go_wp2_with fail
      refine (rvalid_is hu'.out _).mono ?_; rintro e w6 ⟨rfl, hb⟩
      replace hS := Lib.hid (inS_keep hb hS.out)
      clear hb k1 k2 k3 k4 k5 k6 k7 k8
      go_wp2_with fail
      refine (sane_any _).mono ?_; rintro e w7 ⟨rfl, hb⟩
      go_wp2_with fail
      go_ret
      exact ⟨rfl, bthen (bthen HB.out hS.out.1) hb⟩
    · obtain ⟨L, hL⟩ : ∃ L, subL a b c d a' b' c' d' = L := ⟨_, rfl⟩
      obtain ⟨p, q, r, s, hR⟩ : ∃ p q r s, interR a b c d a' b' c' d' = ⟨p, q, r, s⟩ := ⟨_, _, _, _, rfl⟩
      have hsum := Lib.hid (areas_sum hv hu hL hR)
      have hins := Lib.hid (inside_len hv hu hL)
      have hLen : L.length ≤ 4 := hL ▸ sub_len _ _ _ _ _ _ _ _
      have hv' := Lib.hid hv
      have hu' := Lib.hid hu
      have hL' := Lib.hid hL
      have hR' := Lib.hid hR
      clear hv hu hL hR
      go_wp2_with fail
      refine (rvalid_is hv'.out _).mono ?_; rintro e w5 ⟨rfl, hb⟩
      replace hS := Lib.hid (inS_keep hb hS.out)
      clear hb k1 k2 k3 k4 k5 k6 k7 k8
      obtain ⟨-, k1, k2, k3, k4, k5, k6, k7, k8⟩ := hS.out
      go_wp2_with fail
      refine (rvalid_is hu'.out _).mono ?_; rintro e w6 ⟨rfl, hb⟩
      replace hS := Lib.hid (inS_keep hb hS.out)
      clear hb k1 k2 k3 k4 k5 k6 k7 k8
      obtain ⟨-, k1, k2, k3, k4, k5, k6, k7, k8⟩ := hS.out
      go_wp2_with fail
      refine (sub_rcs hL'.out _).mono ?_; rintro e w7 ⟨sa, ca, rfl, hRs, hb⟩
      replace hRs := Lib.hid hRs
      replace hS := Lib.hid (inS_keep hb hS.out)
      clear hb k1 k2 k3 k4 k5 k6 k7 k8
      obtain ⟨-, k1, k2, k3, k4, k5, k6, k7, k8⟩ := hS.out
      go_wp2_with fail
      refine (inter_is hR'.out _).mono ?_; rintro e w8 ⟨rfl, hb⟩
      replace hRs := Lib.hid (hRs.out.below hb)
      replace hS := Lib.hid (inS_keep hb hS.out)
      clear hb k1 k2 k3 k4 k5 k6 k7 k8
      go_wp2_with fail
      refine (area_any _ _ _ _ _).mono ?_; rintro e w9 ⟨rfl, hb⟩
      replace hRs := Lib.hid (hRs.out.below hb)
      replace hS := Lib.hid (inS_keep hb hS.out)
      clear hb
      obtain ⟨A0, eA0⟩ : ∃ A0, areaN p q r s = A0 := ⟨_, rfl⟩
      obtain ⟨A1, A2⟩ := area_bd p q r s
      rw [eA0] at A1 A2 hsum ⊢
      clear eA0
      go_wp2_with fail
      go_loopw [7, 8] (fun n i wr => ∃ (k : Nat) (t : Int), k ≤ L.length ∧ n = .int .i64 t ∧ i = .int .i64 k ∧ Hid (t = A0 + sumA (L.take k)) ∧ (0 ≤ t ∧ t ≤ ((k : Int) + 1) * 4398046511104) ∧ Hid (RcsIs wr sa L) ∧ Hid (InS w3 w3.heap.size (w3.heap.size + 1) a b c d a' b' c' d' wr)) (fun _ i _ => L.length - (intOf i).toNat)
      case atStart => exact ⟨0, A0, by omega, rfl, rfl, Lib.hid (by simp [sumA]), by omega, hRs, hS⟩
      case round =>
        clear hRs hS
        obtain ⟨k, t, hk, rfl, rfl, ht, ⟨t0, t1⟩, hRs, hS⟩ := hrel
        by_cases hlt : k < L.length
        · obtain ⟨ga, rfl, p1, p2, p3, p4⟩ := hRs.out k hlt
          have hstep := Lib.hid (sumA_step L k hlt)
          obtain ⟨⟨X0, Y0, X1, Y1⟩, hq⟩ : ∃ rr, L.getD k ⟨0, 0, 0, 0⟩ = rr := ⟨_, rfl⟩
          rw [hq] at p1 p2 p3 p4 hstep
          dsimp only at p1 p2 p3 p4
          clear hq
          have hkI : (k : Int) < L.length := by omega
          have hk4 : (k : Int) + 1 ≤ 4 := by omega
          go_wp2_with fail
          refine (area_any _ _ _ _ _).mono ?_; rintro e wA ⟨rfl, hb⟩
          have hRs2 := Lib.hid (hRs.out.below hb)
          have hS2 := Lib.hid (inS_keep hb hS.out)
          clear hb
          obtain ⟨B1, B2⟩ := area_bd X0 Y0 X1 Y1
          obtain ⟨B0, eB0⟩ : ∃ B0, areaN X0 Y0 X1 Y1 = B0 := ⟨_, rfl⟩
          have hB := Lib.hid (show t + B0 = A0 + sumA (L.take (k + 1)) from by rw [hstep.out, ht.out, ← eB0]; simp only [arR]; omega)
          rw [eB0] at B1 B2 ⊢
          clear eB0 hstep
          go_wp2_with fail
          go_roundw
          case rel => exact ⟨k + 1, t + B0, by omega, rfl, by go_num, hB, by omega, hRs2, hS2⟩
          case measure => simp [intOf]; omega
        · obtain rfl : k = L.length := by omega
          have hfin : t = areaN a b c d := by rw [ht.out, ← hsum.out, List.take_length]
          subst hfin
          obtain ⟨-, k1, k2, k3, k4, k5, k6, k7, k8⟩ := hS.out
          clear ht t0 t1
          by_cases h0 : L.length = 0
          · have hin := Lib.hid (show insideB a b c d a' b' c' d' = true from by rw [hins.out]; simp [h0])
            have h0' := Lib.hid h0
            go_wp2_with fail
            refine (area_any _ _ _ _ _).mono ?_; rintro e wA ⟨rfl, hb⟩
            replace hS := Lib.hid (inS_keep hb hS.out)
            clear hb k1 k2 k3 k4 k5 k6 k7 k8
            obtain ⟨-, k1, k2, k3, k4, k5, k6, k7, k8⟩ := hS.out
            go_wp2_with fail
            refine (inside_is hin.out _).mono ?_; rintro e wB ⟨rfl, hb⟩
            replace hS := Lib.hid (inS_keep hb hS.out)
            clear hb k1 k2 k3 k4 k5 k6 k7 k8
            go_wp2_with fail
            refine (sane_any _).mono ?_; rintro e wC ⟨rfl, hb⟩
            go_wp2_with fail
            go_ret
            exact ⟨rfl, bthen (bthen HB.out hS.out.1) hb⟩
          · have hin := Lib.hid (show insideB a b c d a' b' c' d' = false from by rw [hins.out]; simp [h0])
            have h1 : ((L.length : Int) == 0) = false := beq_false_of_ne (by omega)
            go_wp2_with fail
            refine (area_any _ _ _ _ _).mono ?_; rintro e wA ⟨rfl, hb⟩
            replace hS := Lib.hid (inS_keep hb hS.out)
            clear hb k1 k2 k3 k4 k5 k6 k7 k8
            obtain ⟨-, k1, k2, k3, k4, k5, k6, k7, k8⟩ := hS.out
            go_wp2_with fail
            refine (inside_is hin.out _).mono ?_; rintro e wB ⟨rfl, hb⟩
            replace hS := Lib.hid (inS_keep hb hS.out)
            clear hb k1 k2 k3 k4 k5 k6 k7 k8
            go_wp2_with fail
            refine (sane_any _).mono ?_; rintro e wC ⟨rfl, hb⟩
            go_wp2_with fail
            go_ret
            exact ⟨rfl, bthen (bthen HB.out hS.out.1) hb⟩

namespace rectAreas
theorem own : ownKnob Try.prog.godebug = none := by kernel_rfl
theorem laid : laidOutB Try.prog = true := by kernel_rfl
theorem params_ok : ∀ t ∈ Try.f6.params.toList, Try.prog.readableRec t = true ∧ t < Try.prog.types.size := by
  rw [Try.params6]
  intro t ht
  simp at ht
  subst ht
  exact ⟨by kernel_rfl, of_decide_eq_true (by kernel_rfl)⟩
set_option maxRecDepth 100000 in
theorem lifted (os : Os) (started : os.Started) (H : Type) (enc : TypeId × Value → H) :
    ReturnsInHanded {} Try.checked os 6 .any (Rows.rectAreasSpec.pre6 enc Try.prog Try.f6 Rows.rectAreasRow.domain false) (Rows.rectAreasSpec.post enc Try.prog Try.f6 false true false false) := by
  refine returnsInHanded_of_change (C := Try.checked) own started (by kernel_rfl) Try.func6
    (ChangeSpec.witness6 (enc := enc) (C := Try.checked) false ⟨#[], #[.slice none 0 0], []⟩ 8 (by kernel_rfl) (by kernel_rfl) (by kernel_rfl) (by kernel_rfl)) ?_
  intro W base args ds gs before hval0 hW hcnd _
  have hval : ∀ (j : Nat) t v, Try.f6.params[j]? = some t → args[j]? = some v → Value.okWide Try.prog W .any base t v := hval0
  have hW' := hW
  obtain ⟨p, q, hA0, hV, rfl, hfz, hnd⟩ := hW
  have hA : DataW.TrodAll enc Try.prog W 0 (fun _ => true) true Try.f6.params.toList args.toList ds p := hA0
  rw [Try.params6] at hA hval
  obtain ⟨v0, vs0, d0, ds0, p0, q0, hargs, rfl, rfl, h0, r0⟩ := trodAll_cons hA
  obtain ⟨rfl, rfl, rfl⟩ := trodAll_nil r0
  obtain rfl : args = #[v0] := by cases args; simp_all
  obtain ⟨rfl, rfl⟩ := trodVars_none hV
  obtain ⟨a0, len, cap, rfl⟩ := okWide_slice Try.underlying22 (hval 0 22 v0 rfl rfl)
  obtain ⟨xs, rfl, hs, hf, hl⟩ := open_list h0
  clear hA0 hval0
  have fin : Calls Try.prog 6 #[.slice a0 xs.length cap] W (TestPost true W) := areas_walk xs a0 cap W hs hf hl
  refine fin.mono fun e W' ⟨he, hb⟩ => ?_
  subst he
  exact ⟨_, rfl, law_post laid rfl Try.underlying4 params_ok rfl hW' rfl hb⟩

theorem over : Rows.rectAreasRow.holds Try.pinned (OpenSpec.ofChange Rows.rectAreasSpec) :=
  OpenClaim.holds_of_wide 6 Try.f6 rfl rfl rfl rfl rfl rfl rfl ⟨rfl, rfl, rfl, rfl, rfl⟩ rfl rfl rfl rfl rfl (by kernel_rfl) Try.func6 (by kernel_rfl)
    (of_decide_eq_true (by kernel_rfl)) (by unfold Func.isWrapper; first | (rw [if_pos (by decide +kernel)]; kernel_rfl) | (rw [if_neg (by decide +kernel)]; exact ⟨rfl, rfl⟩))
    (fun os started H enc _ => lifted os started H enc)

/-- the statement -/
theorem proved : Rows.RectAreasSaid := over
#print axioms proved
end rectAreas
end Go.Proofs.Ytbdedlmpcdelfaa
