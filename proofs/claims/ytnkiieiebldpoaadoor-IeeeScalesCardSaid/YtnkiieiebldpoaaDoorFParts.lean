/- Parts and Compare of the reference as contracts: what each returns; they leave the world as it is. -/
import Derived.Test.YtnkiieiebldpoaaDoorFFields
namespace Go.Proofs.YtnkiieiebldpoaaDoor
open Go.ChangeShapes Go.WideShapes Go.ChangeAt Go.RowKit
set_option linter.unusedVariables false
set_option linter.unusedSimpArgs false

theorem ret_iib {a b c d : Int} {e f : Bool} (h : a = b ∧ c = d ∧ e = f) : Ending.returned (.tuple #[.int .i64 a, .int .i64 c, .bool e]) = .returned (.tuple #[.int .i64 b, .int .i64 d, .bool f]) := by rw [h.1, h.2.1, h.2.2]
theorem ret_ib {a b : Int} {c d : Bool} (h : a = b ∧ c = d) : Ending.returned (.tuple #[.int .i64 a, .bool c]) = .returned (.tuple #[.int .i64 b, .bool d]) := by rw [h.1, h.2]
/-- what Parts leaves -/
def PartsPost (x : Int) (w : World) (e : Ending) (w' : World) : Prop := e = .returned (.tuple #[.int .i64 (partM x), .int .i64 (partE x), .bool (partB x)]) ∧ w = w'
/-- a mantissa halved k times -/
def Halved (x : Int) (f : Nat) (e : Int) : Prop := ∃ j : Nat, 0 < f ∧ f * 2 ^ j = (mantN x).toNat ∧ e = e0N x + j
theorem halved_bd {x : Int} {f : Nat} {e : Int} (h : Halved x f e) : f < 9007199254740992 ∧ -1074 ≤ e ∧ e ≤ 1100 := by
  obtain ⟨j, h0, h1, rfl⟩ := h
  have hm := mant_bd x
  have he := e0_bd x
  have hp := Nat.two_pow_pos j
  have h2 : f * 1 ≤ f * 2 ^ j := Nat.mul_le_mul_left _ hp
  have hj : j < 2 ^ j := Nat.lt_two_pow_self
  have h4 : j < 54 := by
    rcases Nat.lt_or_ge j 54 with g | g
    · exact g
    · exfalso
      have h5 : 2 ^ 54 ≤ 2 ^ j := Nat.pow_le_pow_right (by decide) g
      have h6 : 1 * 2 ^ j ≤ f * 2 ^ j := Nat.mul_le_mul_right _ h0
      have h7 : (2 : Nat) ^ 54 = 18014398509481984 := by decide
      omega
  omega
theorem halved_step {x : Int} {f : Nat} {e : Int} (h : Halved x f e) (hf : f % 2 = 0) : Halved x (f / 2) (e + 1) := by
  obtain ⟨j, h0, h1, rfl⟩ := h
  refine ⟨j + 1, by omega, ?_, by omega⟩
  rw [← h1, Nat.pow_succ, Nat.mul_comm (2 ^ j) 2, ← Nat.mul_assoc]
  congr 1; omega
theorem halved_end {x : Int} {f : Nat} {e : Int} (hc : classN x ≤ 2) (h : Halved x f e) (hf : f % 2 = 1) : partE x = e ∧ partM x = (if sgB x = true then -(f : Int) else f) := by
  obtain ⟨j, h0, h1, rfl⟩ := h
  have hm := mant_bd x
  have : 0 < f * 2 ^ j := Nat.mul_pos h0 (Nat.two_pow_pos j)
  exact parts_at hc (by omega) hf h1
set_option maxHeartbeats 1000000 in
theorem rparts_any (x : Int) (w : World) (h : In64u x) : Calls Tryd.prog 11 #[.int .u64 x] w (PartsPost x w) := by
  obtain ⟨c, ec⟩ : ∃ c, classN x = c := ⟨_, rfl⟩
  have H := Lib.hid h
  by_cases hc : 2 < c
  · have HP := Lib.hid (parts_no (x := x) (by omega))
    have Ec := Lib.hid ec
    clear ec h
    go_enter Tryd.func11, Tryd.ntmps11
    go_wp2_with fail
    refine (rclass_is H.out Ec.out _).mono ?_; rintro e' w' ⟨rfl, rfl⟩
    go_wp2_with fail
    go_returns
    exact ⟨ret_iib ⟨HP.out.1.symm, HP.out.2.1.symm, HP.out.2.2.symm⟩, rfl⟩
  · obtain ⟨s, es⟩ : ∃ s, sgB x = s := ⟨_, rfl⟩
    obtain ⟨e, ee⟩ : ∃ e, exN x = e := ⟨_, rfl⟩
    obtain ⟨f, ef⟩ : ∃ f, frN x = f := ⟨_, rfl⟩
    have b1 := ex_bd x
    have b2 := fr_bd x
    rw [ee] at b1
    rw [ef] at b2
    have hcl : classN x ≤ 2 := by omega
    have HB := Lib.hid (partB_t hcl)
    have HZ := Lib.hid (fun h0 => parts_zero hcl h0)
    have HE := Lib.hid (fun (f : Nat) (e : Int) (hh : Halved x f e) hf => halved_end hcl hh hf)
    have hm : mantN x = if 0 < e then f + 4503599627370496 else f := by unfold mantN; rw [ee, ef]
    have he0 : e0N x = (if 0 < e then e else 1) - 1075 := by unfold e0N; rw [ee]
    have Ec := Lib.hid ec
    have Es := Lib.hid es
    have Ee := Lib.hid ee
    have Ef := Lib.hid ef
    clear ec es ee ef h hcl
    -- the mantissa and its exponent
    obtain ⟨M, eM⟩ : ∃ M : Nat, mantN x = M := ⟨(mantN x).toNat, by have := mant_bd x; omega⟩
    obtain ⟨E, eE⟩ : ∃ E : Int, e0N x = E := ⟨_, rfl⟩
    have bM := mant_bd x
    have bE := e0_bd x
    rw [eM] at bM hm
    rw [eE] at bE he0
    have HM := Lib.hid eM
    have HEE := Lib.hid eE
    clear eM eE
    have H0 : Hid (0 < M → Halved x M E) := Lib.hid (fun h0 => ⟨0, h0, by rw [HM.out]; simp, by rw [HEE.out]; simp⟩)
    by_cases he : 0 < e
    · rw [if_pos he] at hm he0
      have hm' : f + 4503599627370496 = (M : Int) := hm.symm
      have he' : e - 1075 = E := by omega
      have hM0 : 0 < M := by omega
      have hM1 : ¬ (M : Int) = 0 := by omega
      clear hm he0
      go_enter Tryd.func11, Tryd.ntmps11
      go_wp2_with fail
      refine (rclass_is H.out Ec.out _).mono ?_; rintro e' w' ⟨rfl, rfl⟩
      go_wp2_with fail
      refine (fields_is H.out Es.out Ee.out Ef.out _).mono ?_; rintro e' w' ⟨rfl, rfl⟩
      go_wp2_with fail
      go_loop [6, 7] (fun d g => ∃ (n : Nat) (k : Int), g = .int .i64 n ∧ d = .int .i64 k ∧ Hid (Halved x n k)) (fun _ g => (intOf g).toNat)
      case atStart => exact ⟨M, E, rfl, rfl, H0.out hM0⟩
      case round =>
        clear H0
        obtain ⟨n, k, rfl, rfl, HH⟩ := hrel
        have hb := halved_bd HH.out
        by_cases hn : n % 2 = 0
        · have hn0 : 0 < n := HH.out.choose_spec.1
          have HS := Lib.hid (halved_step HH.out hn)
          have ht : ((n : Int) % 2 == 0) = true := by simp; omega
          clear HH
          go_wp2_with fail
          go_round
          case rel => exact ⟨n / 2, k + 1, by simp, rfl, HS⟩
          case measure => simp [intOf]; omega
        · have HF := Lib.hid (HE.out n k HH.out (by omega))
          have ht : ((n : Int) % 2 == 0) = false := by simp; omega
          clear HH hn
          rcases s with _ | _
          all_goals
            go_wp2_with fail
            go_returns
            refine ⟨ret_iib ⟨?_, HF.out.1.symm, HB.out.symm⟩, rfl⟩
            rw [HF.out.2, Es.out]; simp
    · rw [if_neg he] at hm he0
      obtain rfl : f = (M : Int) := hm.symm
      obtain rfl : e = 0 := by omega
      obtain rfl : E = -1074 := by omega
      by_cases hM0 : 0 < M
      · have hM1 : ¬ (M : Int) = 0 := by omega
        have hM2 : ((M : Int) == 0) = false := by simp; omega
        clear hm he0
        go_enter Tryd.func11, Tryd.ntmps11
        go_wp2_with fail
        refine (rclass_is H.out Ec.out _).mono ?_; rintro e' w' ⟨rfl, rfl⟩
        go_wp2_with fail
        refine (fields_is H.out Es.out Ee.out Ef.out _).mono ?_; rintro e' w' ⟨rfl, rfl⟩
        go_wp2_with fail
        go_loop [6, 7] (fun d g => ∃ (n : Nat) (k : Int), g = .int .i64 n ∧ d = .int .i64 k ∧ Hid (Halved x n k)) (fun _ g => (intOf g).toNat)
        case atStart => exact ⟨M, -1074, rfl, rfl, H0.out hM0⟩
        case round =>
          clear H0
          obtain ⟨n, k, rfl, rfl, HH⟩ := hrel
          have hb := halved_bd HH.out
          by_cases hn : n % 2 = 0
          · have hn0 : 0 < n := HH.out.choose_spec.1
            have HS := Lib.hid (halved_step HH.out hn)
            have ht : ((n : Int) % 2 == 0) = true := by simp; omega
            clear HH
            go_wp2_with fail
            go_round
            case rel => exact ⟨n / 2, k + 1, by simp, rfl, HS⟩
            case measure => simp [intOf]; omega
          · have HF := Lib.hid (HE.out n k HH.out (by omega))
            have ht : ((n : Int) % 2 == 0) = false := by simp; omega
            clear HH hn
            rcases s with _ | _
            all_goals
              go_wp2_with fail
              go_returns
              refine ⟨ret_iib ⟨?_, HF.out.1.symm, HB.out.symm⟩, rfl⟩
              rw [HF.out.2, Es.out]; simp
      · obtain rfl : M = 0 := by omega
        have HZ2 := Lib.hid (HZ.out (by rw [HM.out]; rfl))
        clear hm he0 H0
        go_enter Tryd.func11, Tryd.ntmps11
        go_wp2_with fail
        refine (rclass_is H.out Ec.out _).mono ?_; rintro e' w' ⟨rfl, rfl⟩
        go_wp2_with fail
        refine (fields_is H.out Es.out Ee.out Ef.out _).mono ?_; rintro e' w' ⟨rfl, rfl⟩
        go_wp2_with fail
        go_returns
        exact ⟨ret_iib ⟨HZ2.out.1.symm, HZ2.out.2.symm, HB.out.symm⟩, rfl⟩
theorem rparts_is {x m d : Int} {b : Bool} (h : In64u x) (hm : partM x = m) (hd : partE x = d) (hb : partB x = b) (w : World) : Calls Tryd.prog 11 #[.int .u64 x] w fun e w' => e = .returned (.tuple #[.int .i64 m, .int .i64 d, .bool b]) ∧ w = w' := by
  have := rparts_any x w h
  unfold PartsPost at this
  rw [hm, hd, hb] at this; exact this
theorem rkey_any (x : Int) (w : World) (h : In64u x) : Calls Tryd.prog 32 #[.int .u64 x] w fun e w' => e = .returned (.int .i64 (keyN x)) ∧ w = w' := by
  have a1 := Lib.hid (and_key h)
  have a2 := Lib.hid (sign_eq h)
  obtain ⟨h0, h1⟩ := h
  rcases hs : sgB x with _ | _
  · have HK := Lib.hid (show keyN x = x % 9223372036854775808 by unfold keyN; rw [hs]; rfl)
    have ht : (x / 9223372036854775808 == 1) = false := by rw [a2.out, hs]
    clear hs
    go_enter Tryd.func32, Tryd.ntmps32
    go_wp2_with fail
    go_returns
    refine ⟨ret_int ?_, rfl⟩
    show wrap64 (bits BinOp.and IntKind.u64 x 9223372036854775807) = _
    rw [a1.out, HK.out]; unfold wrap64; omega
  · have HK := Lib.hid (show keyN x = -(x % 9223372036854775808) by unfold keyN; rw [hs]; rfl)
    have ht : (x / 9223372036854775808 == 1) = true := by rw [a2.out, hs]
    clear hs
    go_enter Tryd.func32, Tryd.ntmps32
    go_wp2_with fail
    go_returns
    refine ⟨ret_int ?_, rfl⟩
    rw [HK.out]
    show wrap64 (-wrap64 (bits BinOp.and IntKind.u64 x 9223372036854775807)) = _
    rw [a1.out]; unfold wrap64; omega
theorem rkey_is {x k : Int} (h : In64u x) (hk : keyN x = k) (w : World) : Calls Tryd.prog 32 #[.int .u64 x] w fun e w' => e = .returned (.int .i64 k) ∧ w = w' := by
  have := rkey_any x w h
  rw [hk] at this; exact this
/-- what Compare leaves -/
def CmpPost (a b : Int) (w : World) (e : Ending) (w' : World) : Prop := e = .returned (.tuple #[.int .i64 (cmpN a b), .bool (cmpB a b)]) ∧ w = w'
theorem cmp_no {a b : Int} (h : classN a = 4 ∨ classN b = 4) : cmpN a b = 0 ∧ cmpB a b = false := by
  have e : cmpB a b = false := by simp [cmpB]; omega
  exact ⟨by simp [cmpN, e], e⟩
theorem cmp_yes {a b : Int} (ha : classN a ≠ 4) (hb : classN b ≠ 4) : cmpN a b = (if keyN a < keyN b then -1 else if keyN b < keyN a then 1 else 0) ∧ cmpB a b = true := by
  have e : cmpB a b = true := by simp [cmpB, ha, hb]
  exact ⟨by simp [cmpN, e], e⟩
set_option maxHeartbeats 1000000 in
theorem rcmp_any (a b : Int) (w : World) (ha : In64u a) (hb : In64u b) : Calls Tryd.prog 15 #[.int .u64 a, .int .u64 b] w (CmpPost a b w) := by
  obtain ⟨c, ec⟩ : ∃ c, classN a = c := ⟨_, rfl⟩
  obtain ⟨d, ed⟩ : ∃ d, classN b = d := ⟨_, rfl⟩
  have Ec := Lib.hid ec
  have Ed := Lib.hid ed
  have HA := Lib.hid ha
  have HB := Lib.hid hb
  by_cases h : c = 4 ∨ d = 4
  · have HN := Lib.hid (cmp_no (a := a) (b := b) (by omega))
    clear ec ed ha hb
    have h' : c = 4 ∨ (¬ c = 4 ∧ d = 4) := by omega
    clear h
    rcases h' with h' | ⟨h', h''⟩
    · have g1 : (c == 4) = true := by simpa using h'
      clear h'
      go_enter Tryd.func15, Tryd.ntmps15
      go_wp2_with fail
      refine (rclass_is HA.out Ec.out _).mono ?_; rintro e' w' ⟨rfl, rfl⟩
      go_wp2_with fail
      go_returns
      exact ⟨ret_ib ⟨HN.out.1.symm, HN.out.2.symm⟩, rfl⟩
    · have g1 : (c == 4) = false := by simpa using h'
      have g2 : (d == 4) = true := by simpa using h''
      clear h' h''
      go_enter Tryd.func15, Tryd.ntmps15
      go_wp2_with fail
      refine (rclass_is HA.out Ec.out _).mono ?_; rintro e' w' ⟨rfl, rfl⟩
      go_wp2_with fail
      refine (rclass_is HB.out Ed.out _).mono ?_; rintro e' w' ⟨rfl, rfl⟩
      go_wp2_with fail
      go_returns
      exact ⟨ret_ib ⟨HN.out.1.symm, HN.out.2.symm⟩, rfl⟩
  · have HY := Lib.hid (cmp_yes (a := a) (b := b) (by omega) (by omega))
    obtain ⟨k, ek⟩ : ∃ k, keyN a = k := ⟨_, rfl⟩
    obtain ⟨l, el⟩ : ∃ l, keyN b = l := ⟨_, rfl⟩
    have Ek := Lib.hid ek
    have El := Lib.hid el
    have g1 : (c == 4) = false := by simp; omega
    have g2 : (d == 4) = false := by simp; omega
    clear ec ed ha hb h ek el
    go_enter Tryd.func15, Tryd.ntmps15
    go_wp2_with fail
    refine (rclass_is HA.out Ec.out _).mono ?_; rintro e' w' ⟨rfl, rfl⟩
    go_wp2_with fail
    refine (rclass_is HB.out Ed.out _).mono ?_; rintro e' w' ⟨rfl, rfl⟩
    go_wp2_with fail
    refine (rkey_is HA.out Ek.out _).mono ?_; rintro e' w' ⟨rfl, rfl⟩
    go_wp2_with fail
    refine (rkey_is HB.out El.out _).mono ?_; rintro e' w' ⟨rfl, rfl⟩
    go_wp2_with fail
    all_goals
      go_returns
      refine ⟨ret_ib ⟨?_, HY.out.2.symm⟩, rfl⟩
      rw [HY.out.1, Ek.out, El.out]
      (repeat' split) <;> omega
end Go.Proofs.YtnkiieiebldpoaaDoor
