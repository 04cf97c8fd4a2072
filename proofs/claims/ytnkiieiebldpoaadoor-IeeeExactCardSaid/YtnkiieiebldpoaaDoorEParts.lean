/- Parts, the order of values and Compare of the package ieee as contracts. They leave the world as it is. -/
import Derived.Test.YtnkiieiebldpoaaDoorELeaf
namespace Go.Proofs.YtnkiieiebldpoaaDoor
open Go.ChangeShapes Go.WideShapes Go.ChangeAt Go.RowKit
set_option linter.unusedVariables false
set_option linter.unusedSimpArgs false

theorem parts_any (x : Int) (w : World) (h : In64u x) (hT : TabZ w) : Calls Tryd.prog 10 #[.int .u64 x] w (PartsPost x w) := by
  have HT := Lib.hid hT
  obtain ⟨c, ec⟩ : ∃ c, classN x = c := ⟨_, rfl⟩
  have hcb := class_bd x
  rw [ec] at hcb
  have H := Lib.hid h
  obtain ⟨f, ef⟩ : ∃ f, frN x = f := ⟨_, rfl⟩
  have eF : bits .and .u64 x 4503599627370495 = f := by rw [← ef]; exact and_frac h
  by_cases hc : 2 < c
  · have HP := Lib.hid (parts_no (x := x) (by omega))
    have Ec := Lib.hid ec
    clear ec h hT ef
    rcases (show c = 3 ∨ c = 4 by omega) with rfl | rfl
    all_goals
      go_enter Tryd.func10, Tryd.ntmps10
      go_wp2_with fail
      refine (class_is H.out Ec.out _).mono ?_; rintro e' w' ⟨rfl, rfl⟩
      go_wp2_with fail
      go_returns
      exact ⟨ret_iib ⟨HP.out.1.symm, HP.out.2.1.symm, HP.out.2.2.symm⟩, rfl⟩
  · have hcl : classN x ≤ 2 := by omega
    have HB := Lib.hid (partB_t hcl)
    obtain ⟨s, es⟩ : ∃ s, sgB x = s := ⟨_, rfl⟩
    obtain ⟨e, ee⟩ : ∃ e, exN x = e := ⟨_, rfl⟩
    have b1 := ex_bd x
    have b2 := fr_bd x
    have hcd : (c = 0 ∧ e = 0 ∧ f = 0) ∨ (c = 1 ∧ e = 0 ∧ 0 < f) ∨ (c = 2 ∧ 0 < e) := by
      unfold classN at ec
      rw [ee, ef] at ec
      rw [ee] at b1
      rw [ef] at b2
      split at ec
      · omega
      · split at ec
        · omega
        · split at ec
          · omega
          · split at ec <;> omega
    rw [ee] at b1
    rw [ef] at b2
    have hm : mantN x = if 0 < e then f + 4503599627370496 else f := by unfold mantN; rw [ee, ef]
    have he0 : e0N x = (if 0 < e then e else 1) - 1075 := by unfold e0N; rw [ee]
    have Ec := Lib.hid ec
    have Es := Lib.hid es
    have Ee := Lib.hid ee
    have HZ := Lib.hid (fun h0 => parts_zero hcl h0)
    have HPT := Lib.hid (fun h0 => parts_tz hcl h0)
    clear ec es ee ef h hT hcl
    rcases hcd with ⟨rfl, rfl, rfl⟩ | ⟨rfl, rfl, hf⟩ | ⟨rfl, he⟩
    · have HZ2 := Lib.hid (HZ.out (by rw [hm]; rfl))
      clear hm he0 HZ HPT
      go_enter Tryd.func10, Tryd.ntmps10
      go_wp2_with fail
      refine (class_is H.out Ec.out _).mono ?_; rintro e' w' ⟨rfl, rfl⟩
      go_wp2_with fail
      go_returns
      exact ⟨ret_iib ⟨HZ2.out.1.symm, HZ2.out.2.symm, HB.out.symm⟩, rfl⟩
    · rw [if_neg (by omega)] at hm he0
      obtain ⟨M, k, F, hM, hM0, hM1, hk, hk1, hF, hF1, hE, hP⟩ := HPT.out (by rw [hm]; exact hf)
      rw [hm] at hM
      subst hM
      have HK := Lib.hid hk
      have HE := Lib.hid (show partE x = -1074 + (k : Int) by rw [hE, he0]; rfl)
      have HP := Lib.hid hP
      have HM0 := Lib.hid hM0
      have HM1 := Lib.hid (show M < 18446744073709551616 by omega)
      have hkI : (k : Int) ≤ 64 := by omega
      clear hm he0 HZ HPT hE hP hk hM0 hM1
      rcases s with _ | _
      all_goals
        go_enter Tryd.func10, Tryd.ntmps10
        go_wp2_with fail
        refine (class_is H.out Ec.out _).mono ?_; rintro e' w' ⟨rfl, rfl⟩
        go_wp2_with fail
        refine (trailing_any M _ HM0.out HM1.out HT.out).mono ?_; rintro e' w' ⟨rfl, rfl⟩
        rw [HK.out]
        go_wp2_with fail
        refine (signed_is H.out Es.out (by omega) (by omega) _).mono ?_; rintro e' w' ⟨rfl, rfl⟩
        go_wp2_with fail
        go_returns
        refine ⟨ret_iib ⟨?_, ?_, HB.out.symm⟩, rfl⟩
        · rw [HP.out, Es.out]; rfl
        · have := HE.out; omega
    · rw [if_pos he] at hm he0
      obtain ⟨M, k, F, hM, hM0, hM1, hk, hk1, hF, hF1, hE, hP⟩ := HPT.out (by rw [hm]; omega)
      rw [hm] at hM
      have eM : IntKind.u64.wrap (f + 4503599627370496) = (M : Int) := by rw [hM, IntKind.wrap_u64]; omega
      have HK := Lib.hid hk
      have HE := Lib.hid (show partE x = e - 1075 + (k : Int) by rw [hE, he0])
      have HP := Lib.hid hP
      have HM0 := Lib.hid hM0
      have HM1 := Lib.hid (show M < 18446744073709551616 by omega)
      have hkI : (k : Int) ≤ 64 := by omega
      clear hm he0 HZ HPT hE hP hk hM0 hM1 hM
      rcases s with _ | _
      all_goals
        go_enter Tryd.func10, Tryd.ntmps10
        go_wp2_with fail
        refine (class_is H.out Ec.out _).mono ?_; rintro e' w' ⟨rfl, rfl⟩
        go_wp2_with fail
        refine (expo_is H.out Ee.out _).mono ?_; rintro e' w' ⟨rfl, rfl⟩
        go_wp2_with fail
        refine (trailing_any M _ HM0.out HM1.out HT.out).mono ?_; rintro e' w' ⟨rfl, rfl⟩
        rw [HK.out]
        go_wp2_with fail
        refine (signed_is H.out Es.out (by omega) (by omega) _).mono ?_; rintro e' w' ⟨rfl, rfl⟩
        go_wp2_with fail
        go_returns
        refine ⟨ret_iib ⟨?_, ?_, HB.out.symm⟩, rfl⟩
        · rw [HP.out, Es.out]; rfl
        · have := HE.out; omega
theorem parts_is {x m d : Int} {b : Bool} (h : In64u x) (hm : partM x = m) (hd : partE x = d) (hb : partB x = b) (w : World) (hT : TabZ w) : Calls Tryd.prog 10 #[.int .u64 x] w fun e w' => e = .returned (.tuple #[.int .i64 m, .int .i64 d, .bool b]) ∧ w = w' := by
  have := parts_any x w h hT
  unfold PartsPost at this
  rw [hm, hd, hb] at this; exact this
end Go.Proofs.YtnkiieiebldpoaaDoor
