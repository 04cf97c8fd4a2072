/- The bits of a float64 value as integers: its class, its parts, its key in the order of values. No program is named. Class, Parts and Compare of the reference as contracts: what each returns; they leave the world as it is. Parts and Compare of the reference as contracts: what each returns; they leave the world as it is. The nearest integer to a mantissa times a power of two, of two nearest ones the even one; scaled values. No program is named. Scale of the reference as a contract: what it returns; it leaves the world as it is. -/
import Derived.Test.YtjmdpebocchdhaaDoorBase
import Derived.Laws.Bits64b
import Derived.Laws.BitsLemmas
namespace Go.Proofs.YtjmdpebocchdhaaDoor
set_option linter.unusedVariables false
set_option linter.unusedSimpArgs false

/-- a number of 64 bits -/
def In64u (x : Int) : Prop := 0 ≤ x ∧ x < 18446744073709551616
def sgB (x : Int) : Bool := decide (9223372036854775808 ≤ x)
def exN (x : Int) : Int := x / 4503599627370496 % 2048
def frN (x : Int) : Int := x % 4503599627370496
def classN (x : Int) : Int := if exN x = 2047 ∧ frN x = 0 then 3 else if exN x = 2047 then 4 else if 0 < exN x then 2 else if 0 < frN x then 1 else 0
/-- the mantissa as it is stored, and its exponent -/
def mantN (x : Int) : Int := if 0 < exN x then frN x + 4503599627370496 else frN x
def e0N (x : Int) : Int := (if 0 < exN x then exN x else 1) - 1075
/-- how often 2 divides a number -/
def tzF : Nat → Nat → Nat
  | 0, _ => 0
  | n + 1, f => if f % 2 = 0 then tzF n (f / 2) + 1 else 0
def tz (f : Nat) : Nat := tzF 64 f
def partM (x : Int) : Int := if 2 < classN x then 0 else if sgB x = true then -(mantN x / 2 ^ tz (mantN x).toNat) else mantN x / 2 ^ tz (mantN x).toNat
def partE (x : Int) : Int := if 2 < classN x ∨ mantN x = 0 then 0 else e0N x + tz (mantN x).toNat
def partB (x : Int) : Bool := decide (classN x ≤ 2)
/-- a number that grows with the value -/
def keyN (x : Int) : Int := if sgB x = true then -(x % 9223372036854775808) else x % 9223372036854775808
def cmpB (a b : Int) : Bool := decide (classN a ≠ 4 ∧ classN b ≠ 4)
def cmpN (a b : Int) : Int := if cmpB a b = true then (if keyN a < keyN b then -1 else if keyN b < keyN a then 1 else 0) else 0

theorem ex_bd (x : Int) : 0 ≤ exN x ∧ exN x ≤ 2047 := by unfold exN; omega
theorem fr_bd (x : Int) : 0 ≤ frN x ∧ frN x < 4503599627370496 := by unfold frN; omega
theorem class_bd (x : Int) : 0 ≤ classN x ∧ classN x ≤ 4 := by
  unfold classN
  split
  · omega
  · split
    · omega
    · split
      · omega
      · split <;> omega
theorem mant_bd (x : Int) : 0 ≤ mantN x ∧ mantN x < 9007199254740992 := by
  have := fr_bd x
  unfold mantN; split <;> omega
theorem e0_bd (x : Int) : -1074 ≤ e0N x ∧ e0N x ≤ 972 := by
  have := ex_bd x
  unfold e0N; split <;> omega
theorem class_fin {x : Int} : classN x ≤ 2 ↔ exN x ≠ 2047 := by
  unfold classN
  have := ex_bd x
  split
  · omega
  · split
    · omega
    · split
      · omega
      · split <;> omega
theorem and_mask {x : Int} (h : In64u x) (i : Nat) (hi : i ≤ 64) : bits .and .u64 x (2 ^ i - 1) = x % 2 ^ i :=
  bits_mask .u64 64 (by decide) (fun n h0 h1 => by rw [IntKind.wrap_u64]; omega) i hi x h.1 (by have := h.2; omega)
theorem and_exp {x : Int} (h : In64u x) : bits .and .u64 (x / 4503599627370496) 2047 = exN x := by
  have h' : In64u (x / 4503599627370496) := by unfold In64u at *; omega
  exact and_mask h' 11 (by decide)
theorem and_frac {x : Int} (h : In64u x) : bits .and .u64 x 4503599627370495 = frN x := and_mask h 52 (by decide)
theorem and_key {x : Int} (h : In64u x) : bits .and .u64 x 9223372036854775807 = x % 9223372036854775808 := and_mask h 63 (by decide)
theorem sign_eq {x : Int} (h : In64u x) : (x / 9223372036854775808 == 1) = sgB x := by
  unfold In64u at h
  unfold sgB
  rw [Bool.eq_iff_iff]; simp; omega

theorem tzF_odd : ∀ (n j f : Nat), f % 2 = 1 → j ≤ n → tzF n (f * 2 ^ j) = j
  | 0, j, f, hf, hj => by
    have : j = 0 := by omega
    subst this; rfl
  | n + 1, 0, f, hf, hj => by
    unfold tzF
    rw [if_neg (by simp; omega)]
  | n + 1, j + 1, f, hf, hj => by
    have e : f * 2 ^ (j + 1) = f * 2 ^ j * 2 := by rw [Nat.pow_succ, Nat.mul_assoc]
    unfold tzF
    rw [e, if_pos (by omega), Nat.mul_div_cancel _ (by omega), tzF_odd n j f hf (by omega)]
theorem tz_is {M f j : Nat} (hM : M < 18446744073709551616) (hf : f % 2 = 1) (h : f * 2 ^ j = M) : tz M = j ∧ M / 2 ^ j = f := by
  have hj : j ≤ 64 := by
    rcases Nat.lt_or_ge 64 j with hj | hj
    · exfalso
      have h1 : 2 ^ 64 ≤ 2 ^ j := Nat.pow_le_pow_right (by decide) (by omega)
      have h2 : 1 * 2 ^ j ≤ f * 2 ^ j := Nat.mul_le_mul_right _ (by omega)
      have h3 : (2 : Nat) ^ 64 = 18446744073709551616 := by decide
      omega
    · exact hj
  subst h
  exact ⟨tzF_odd 64 j f hf hj, Nat.mul_div_cancel _ (Nat.two_pow_pos j)⟩
/-- where a number has been halved down to an odd one -/
theorem parts_at {x : Int} (hc : classN x ≤ 2) (hm : 0 < mantN x) {f j : Nat} (hf : f % 2 = 1) (h : f * 2 ^ j = (mantN x).toNat) : partE x = e0N x + j ∧ partM x = (if sgB x = true then -(f : Int) else f) := by
  have hb := mant_bd x
  obtain ⟨h1, h2⟩ := tz_is (M := (mantN x).toNat) (by omega) hf h
  have e : mantN x / 2 ^ tz (mantN x).toNat = f := by
    rw [h1]
    have : ((mantN x).toNat : Int) / ((2 ^ j : Nat) : Int) = f := by rw [← Int.natCast_ediv, h2]
    rw [Int.toNat_of_nonneg (by omega)] at this
    simpa using this
  unfold partE partM
  rw [if_neg (by omega), if_neg (by omega), e, h1]
  exact ⟨rfl, rfl⟩
theorem parts_zero {x : Int} (hc : classN x ≤ 2) (hm : mantN x = 0) : partM x = 0 ∧ partE x = 0 := by
  constructor
  · unfold partM; rw [if_neg (by omega), hm]; simp
  · unfold partE; rw [if_pos (.inr hm)]
theorem parts_no {x : Int} (hc : 2 < classN x) : partM x = 0 ∧ partE x = 0 ∧ partB x = false := by
  unfold partE partM partB
  rw [if_pos hc, if_pos (.inl hc)]
  exact ⟨rfl, rfl, by simp; omega⟩
theorem partB_t {x : Int} (hc : classN x ≤ 2) : partB x = true := by simp [partB, hc]
theorem key_bd (x : Int) : -9223372036854775808 < keyN x ∧ keyN x < 9223372036854775808 := by
  unfold keyN; split <;> omega
open Go.ChangeShapes Go.WideShapes Go.ChangeAt Go.RowKit
set_option linter.unusedVariables false
set_option linter.unusedSimpArgs false

theorem ret_bii {a b : Bool} {c d e f : Int} (h : a = b ∧ c = d ∧ e = f) : Ending.returned (.tuple #[.bool a, .int .i64 c, .int .i64 e]) = .returned (.tuple #[.bool b, .int .i64 d, .int .i64 f]) := by rw [h.1, h.2.1, h.2.2]
theorem fields_any (x : Int) (w : World) (h : In64u x) :
    Calls Tryd.prog 55 #[.int .u64 x] w fun e w' => e = .returned (.tuple #[.bool (sgB x), .int .i64 (exN x), .int .i64 (frN x)]) ∧ w = w' := by
  obtain ⟨h0, h1⟩ := h
  have a1 := Lib.hid (and_exp ⟨h0, h1⟩)
  have a2 := Lib.hid (and_frac ⟨h0, h1⟩)
  have a3 := Lib.hid (sign_eq ⟨h0, h1⟩)
  have b1 := Lib.hid (ex_bd x)
  have b2 := Lib.hid (fr_bd x)
  go_enter Tryd.func55, Tryd.ntmps55
  go_wp2_with fail
  go_returns
  refine ⟨ret_bii ⟨a3.out, ?_, ?_⟩, rfl⟩
  · show wrap64 (bits BinOp.and IntKind.u64 (x / 4503599627370496) 2047) = _
    rw [a1.out]; have := b1.out; unfold wrap64; omega
  · show wrap64 (bits BinOp.and IntKind.u64 x 4503599627370495) = _
    rw [a2.out]; have := b2.out; unfold wrap64; omega
theorem fields_is {x f e : Int} {s : Bool} (h : In64u x) (hs : sgB x = s) (he : exN x = e) (hf : frN x = f) (w : World) :
    Calls Tryd.prog 55 #[.int .u64 x] w fun e' w' => e' = .returned (.tuple #[.bool s, .int .i64 e, .int .i64 f]) ∧ w = w' := by
  have := fields_any x w h
  rw [hs, he, hf] at this; exact this
/-- what Class leaves -/
def ClassPost (x : Int) (w : World) (e : Ending) (w' : World) : Prop := e = .returned (.int .i64 (classN x)) ∧ w = w'
theorem rclass_any (x : Int) (w : World) (h : In64u x) : Calls Tryd.prog 54 #[.int .u64 x] w (ClassPost x w) := by
  obtain ⟨s, es⟩ : ∃ s, sgB x = s := ⟨_, rfl⟩
  obtain ⟨e, ee⟩ : ∃ e, exN x = e := ⟨_, rfl⟩
  obtain ⟨f, ef⟩ : ∃ f, frN x = f := ⟨_, rfl⟩
  have b1 := ex_bd x
  have b2 := fr_bd x
  have HC : Hid (classN x = if e = 2047 ∧ f = 0 then 3 else if e = 2047 then 4 else if 0 < e then 2 else if 0 < f then 1 else 0) := Lib.hid (by unfold classN; rw [ee, ef])
  rw [ee] at b1
  rw [ef] at b2
  have Es := Lib.hid es
  have Ee := Lib.hid ee
  have Ef := Lib.hid ef
  have H := Lib.hid h
  clear es ee ef h
  go_enter Tryd.func54, Tryd.ntmps54
  go_wp2_with fail
  refine (fields_is H.out Es.out Ee.out Ef.out _).mono ?_; rintro e' w' ⟨rfl, rfl⟩
  go_wp2_with fail
  all_goals
    go_ret
    refine ⟨ret_int ?_, rfl⟩
    rw [HC.out]
    simp at *
    (repeat' split) <;> omega
theorem rclass_is {x c : Int} (h : In64u x) (hc : classN x = c) (w : World) : Calls Tryd.prog 54 #[.int .u64 x] w fun e w' => e = .returned (.int .i64 c) ∧ w = w' := by
  have := rclass_any x w h
  unfold ClassPost at this
  rw [hc] at this; exact this
open Go.ChangeShapes Go.WideShapes Go.ChangeAt Go.RowKit
set_option linter.unusedVariables false
set_option linter.unusedSimpArgs false

theorem ret_iib {a b c d : Int} {e f : Bool} (h : a = b ∧ c = d ∧ e = f) : Ending.returned (.tuple #[.int .i64 a, .int .i64 c, .bool e]) = .returned (.tuple #[.int .i64 b, .int .i64 d, .bool f]) := by rw [h.1, h.2.1, h.2.2]
theorem ret_ib {a b : Int} {c d : Bool} (h : a = b ∧ c = d) : Ending.returned (.tuple #[.int .i64 a, .bool c]) = .returned (.tuple #[.int .i64 b, .bool d]) := by rw [h.1, h.2]
/-- what Parts leaves -/
def PartsPost (x : Int) (w : World) (e : Ending) (w' : World) : Prop := e = .returned (.tuple #[.int .i64 (partM x), .int .i64 (partE x), .bool (partB x)]) ∧ w = w'
/-- a mantissa halved k times -/
def Halved (x : Int) (f : Nat) (e : Int) : Prop := ∃ j : Nat, 0 < f ∧ f * 2 ^ j = (mantN x).toNat ∧ e = e0N x + j
theorem halved_bd {x : Int} {f : Nat} {e : Int} (h : Halved x f e) : f < 9007199254740992 ∧ -1074 ≤ e ∧ e ≤ 1100 := by
  obtain ⟨j, h0, h1, rfl⟩ := h
  have hm := mant_bd x
  have he := e0_bd x
  have hp := Nat.two_pow_pos j
  have h2 : f * 1 ≤ f * 2 ^ j := Nat.mul_le_mul_left _ hp
  have hj : j < 2 ^ j := Nat.lt_two_pow_self
  have h4 : j < 54 := by
    rcases Nat.lt_or_ge j 54 with g | g
    · exact g
    · exfalso
      have h5 : 2 ^ 54 ≤ 2 ^ j := Nat.pow_le_pow_right (by decide) g
      have h6 : 1 * 2 ^ j ≤ f * 2 ^ j := Nat.mul_le_mul_right _ h0
      have h7 : (2 : Nat) ^ 54 = 18014398509481984 := by decide
      omega
  omega
theorem halved_step {x : Int} {f : Nat} {e : Int} (h : Halved x f e) (hf : f % 2 = 0) : Halved x (f / 2) (e + 1) := by
  obtain ⟨j, h0, h1, rfl⟩ := h
  refine ⟨j + 1, by omega, ?_, by omega⟩
  rw [← h1, Nat.pow_succ, Nat.mul_comm (2 ^ j) 2, ← Nat.mul_assoc]
  congr 1; omega
theorem halved_end {x : Int} {f : Nat} {e : Int} (hc : classN x ≤ 2) (h : Halved x f e) (hf : f % 2 = 1) : partE x = e ∧ partM x = (if sgB x = true then -(f : Int) else f) := by
  obtain ⟨j, h0, h1, rfl⟩ := h
  have hm := mant_bd x
  have : 0 < f * 2 ^ j := Nat.mul_pos h0 (Nat.two_pow_pos j)
  exact parts_at hc (by omega) hf h1
set_option maxHeartbeats 1000000 in
theorem rparts_any (x : Int) (w : World) (h : In64u x) : Calls Tryd.prog 49 #[.int .u64 x] w (PartsPost x w) := by
  obtain ⟨c, ec⟩ : ∃ c, classN x = c := ⟨_, rfl⟩
  have H := Lib.hid h
  by_cases hc : 2 < c
  · have HP := Lib.hid (parts_no (x := x) (by omega))
    have Ec := Lib.hid ec
    clear ec h
    go_enter Tryd.func49, Tryd.ntmps49
    go_wp2_with fail
    refine (rclass_is H.out Ec.out _).mono ?_; rintro e' w' ⟨rfl, rfl⟩
    go_wp2_with fail
    go_returns
    exact ⟨ret_iib ⟨HP.out.1.symm, HP.out.2.1.symm, HP.out.2.2.symm⟩, rfl⟩
  · obtain ⟨s, es⟩ : ∃ s, sgB x = s := ⟨_, rfl⟩
    obtain ⟨e, ee⟩ : ∃ e, exN x = e := ⟨_, rfl⟩
    obtain ⟨f, ef⟩ : ∃ f, frN x = f := ⟨_, rfl⟩
    have b1 := ex_bd x
    have b2 := fr_bd x
    rw [ee] at b1
    rw [ef] at b2
    have hcl : classN x ≤ 2 := by omega
    have HB := Lib.hid (partB_t hcl)
    have HZ := Lib.hid (fun h0 => parts_zero hcl h0)
    have HE := Lib.hid (fun (f : Nat) (e : Int) (hh : Halved x f e) hf => halved_end hcl hh hf)
    have hm : mantN x = if 0 < e then f + 4503599627370496 else f := by unfold mantN; rw [ee, ef]
    have he0 : e0N x = (if 0 < e then e else 1) - 1075 := by unfold e0N; rw [ee]
    have Ec := Lib.hid ec
    have Es := Lib.hid es
    have Ee := Lib.hid ee
    have Ef := Lib.hid ef
    clear ec es ee ef h hcl
    -- the mantissa and its exponent
    obtain ⟨M, eM⟩ : ∃ M : Nat, mantN x = M := ⟨(mantN x).toNat, by have := mant_bd x; omega⟩
    obtain ⟨E, eE⟩ : ∃ E : Int, e0N x = E := ⟨_, rfl⟩
    have bM := mant_bd x
    have bE := e0_bd x
    rw [eM] at bM hm
    rw [eE] at bE he0
    have HM := Lib.hid eM
    have HEE := Lib.hid eE
    clear eM eE
    have H0 : Hid (0 < M → Halved x M E) := Lib.hid (fun h0 => ⟨0, h0, by rw [HM.out]; simp, by rw [HEE.out]; simp⟩)
    by_cases he : 0 < e
    · rw [if_pos he] at hm he0
      have hm' : f + 4503599627370496 = (M : Int) := hm.symm
      have he' : e - 1075 = E := by omega
      have hM0 : 0 < M := by omega
      have hM1 : ¬ (M : Int) = 0 := by omega
      clear hm he0
      go_enter Tryd.func49, Tryd.ntmps49
      go_wp2_with fail
      refine (rclass_is H.out Ec.out _).mono ?_; rintro e' w' ⟨rfl, rfl⟩
      go_wp2_with fail
      refine (fields_is H.out Es.out Ee.out Ef.out _).mono ?_; rintro e' w' ⟨rfl, rfl⟩
      go_wp2_with fail
      go_loop [6, 7] (fun d g => ∃ (n : Nat) (k : Int), g = .int .i64 n ∧ d = .int .i64 k ∧ Hid (Halved x n k)) (fun _ g => (intOf g).toNat)
      case atStart => exact ⟨M, E, rfl, rfl, H0.out hM0⟩
      case round =>
        clear H0
        obtain ⟨n, k, rfl, rfl, HH⟩ := hrel
        have hb := halved_bd HH.out
        by_cases hn : n % 2 = 0
        · have hn0 : 0 < n := HH.out.choose_spec.1
          have HS := Lib.hid (halved_step HH.out hn)
          have ht : ((n : Int) % 2 == 0) = true := by simp; omega
          clear HH
          go_wp2_with fail
          go_round
          case rel => exact ⟨n / 2, k + 1, by simp, rfl, HS⟩
          case measure => simp [intOf]; omega
        · have HF := Lib.hid (HE.out n k HH.out (by omega))
          have ht : ((n : Int) % 2 == 0) = false := by simp; omega
          clear HH hn
          rcases s with _ | _
          all_goals
            go_wp2_with fail
            go_returns
            refine ⟨ret_iib ⟨?_, HF.out.1.symm, HB.out.symm⟩, rfl⟩
            rw [HF.out.2, Es.out]; simp
    · rw [if_neg he] at hm he0
      obtain rfl : f = (M : Int) := hm.symm
      obtain rfl : e = 0 := by omega
      obtain rfl : E = -1074 := by omega
      by_cases hM0 : 0 < M
      · have hM1 : ¬ (M : Int) = 0 := by omega
        have hM2 : ((M : Int) == 0) = false := by simp; omega
        clear hm he0
        go_enter Tryd.func49, Tryd.ntmps49
        go_wp2_with fail
        refine (rclass_is H.out Ec.out _).mono ?_; rintro e' w' ⟨rfl, rfl⟩
        go_wp2_with fail
        refine (fields_is H.out Es.out Ee.out Ef.out _).mono ?_; rintro e' w' ⟨rfl, rfl⟩
        go_wp2_with fail
        go_loop [6, 7] (fun d g => ∃ (n : Nat) (k : Int), g = .int .i64 n ∧ d = .int .i64 k ∧ Hid (Halved x n k)) (fun _ g => (intOf g).toNat)
        case atStart => exact ⟨M, -1074, rfl, rfl, H0.out hM0⟩
        case round =>
          clear H0
          obtain ⟨n, k, rfl, rfl, HH⟩ := hrel
          have hb := halved_bd HH.out
          by_cases hn : n % 2 = 0
          · have hn0 : 0 < n := HH.out.choose_spec.1
            have HS := Lib.hid (halved_step HH.out hn)
            have ht : ((n : Int) % 2 == 0) = true := by simp; omega
            clear HH
            go_wp2_with fail
            go_round
            case rel => exact ⟨n / 2, k + 1, by simp, rfl, HS⟩
            case measure => simp [intOf]; omega
          · have HF := Lib.hid (HE.out n k HH.out (by omega))
            have ht : ((n : Int) % 2 == 0) = false := by simp; omega
            clear HH hn
            rcases s with _ | _
            all_goals
              go_wp2_with fail
              go_returns
              refine ⟨ret_iib ⟨?_, HF.out.1.symm, HB.out.symm⟩, rfl⟩
              rw [HF.out.2, Es.out]; simp
      · obtain rfl : M = 0 := by omega
        have HZ2 := Lib.hid (HZ.out (by rw [HM.out]; rfl))
        clear hm he0 H0
        go_enter Tryd.func49, Tryd.ntmps49
        go_wp2_with fail
        refine (rclass_is H.out Ec.out _).mono ?_; rintro e' w' ⟨rfl, rfl⟩
        go_wp2_with fail
        refine (fields_is H.out Es.out Ee.out Ef.out _).mono ?_; rintro e' w' ⟨rfl, rfl⟩
        go_wp2_with fail
        go_returns
        exact ⟨ret_iib ⟨HZ2.out.1.symm, HZ2.out.2.symm, HB.out.symm⟩, rfl⟩
theorem rparts_is {x m d : Int} {b : Bool} (h : In64u x) (hm : partM x = m) (hd : partE x = d) (hb : partB x = b) (w : World) : Calls Tryd.prog 49 #[.int .u64 x] w fun e w' => e = .returned (.tuple #[.int .i64 m, .int .i64 d, .bool b]) ∧ w = w' := by
  have := rparts_any x w h
  unfold PartsPost at this
  rw [hm, hd, hb] at this; exact this
/-- what Compare leaves -/
def CmpPost (a b : Int) (w : World) (e : Ending) (w' : World) : Prop := e = .returned (.tuple #[.int .i64 (cmpN a b), .bool (cmpB a b)]) ∧ w = w'
theorem cmp_no {a b : Int} (h : classN a = 4 ∨ classN b = 4) : cmpN a b = 0 ∧ cmpB a b = false := by
  have e : cmpB a b = false := by simp [cmpB]; omega
  exact ⟨by simp [cmpN, e], e⟩
theorem cmp_yes {a b : Int} (ha : classN a ≠ 4) (hb : classN b ≠ 4) : cmpN a b = (if keyN a < keyN b then -1 else if keyN b < keyN a then 1 else 0) ∧ cmpB a b = true := by
  have e : cmpB a b = true := by simp [cmpB, ha, hb]
  exact ⟨by simp [cmpN, e], e⟩
set_option linter.unusedVariables false
set_option linter.unusedSimpArgs false

/-- the nearest integer to M / 2^k -/
def rnd (M k : Nat) : Nat := if 2 ^ k < 2 * (M % 2 ^ k) ∨ (2 * (M % 2 ^ k) = 2 ^ k ∧ M / 2 ^ k % 2 = 1) then M / 2 ^ k + 1 else M / 2 ^ k
/-- the nearest integer to M * 2^E -/
def near (M : Nat) (E : Int) : Nat := if 0 ≤ E then M * 2 ^ E.toNat else rnd M (-E).toNat
/-- the value's size, scaled -/
def sizeN (x s : Int) : Nat := near (mantN x).toNat (e0N x + s)
def scaleC (x s : Int) : Int := if s < 0 ∨ 24 < s then 2 else if 2 < classN x then 1 else if 32767 < sizeN x s then 3 else 0
def scaleN (x s : Int) : Int := if scaleC x s = 0 then (if sgB x = true then -(sizeN x s : Int) else sizeN x s) else 0
theorem rnd_zero (k : Nat) : rnd 0 k = 0 := by
  unfold rnd
  simp
theorem near_zero (E : Int) : near 0 E = 0 := by
  unfold near; split
  · simp
  · exact rnd_zero _
theorem rnd_div {f j k : Nat} (h : k ≤ j) : rnd (f * 2 ^ j) k = f * 2 ^ (j - k) := by
  have e : f * 2 ^ j = f * 2 ^ (j - k) * 2 ^ k := by rw [Nat.mul_assoc, ← Nat.pow_add]; congr 2; omega
  have hp := Nat.two_pow_pos k
  unfold rnd
  rw [e, Nat.mul_mod_left, Nat.mul_div_cancel _ hp]
  rw [if_neg (by omega)]
theorem rnd_scale {f j k : Nat} (h : j ≤ k) : rnd (f * 2 ^ j) k = rnd f (k - j) := by
  have e : 2 ^ k = 2 ^ (k - j) * 2 ^ j := by rw [← Nat.pow_add]; congr 1; omega
  have hp := Nat.two_pow_pos j
  unfold rnd
  rw [e, Nat.mul_mod_mul_right, Nat.mul_div_mul_right _ _ hp]
  have a : 2 ^ (k - j) * 2 ^ j < 2 * (f % 2 ^ (k - j) * 2 ^ j) ↔ 2 ^ (k - j) < 2 * (f % 2 ^ (k - j)) := by
    rw [← Nat.mul_assoc]; exact Nat.mul_lt_mul_right hp
  have b : 2 * (f % 2 ^ (k - j) * 2 ^ j) = 2 ^ (k - j) * 2 ^ j ↔ 2 * (f % 2 ^ (k - j)) = 2 ^ (k - j) := by
    rw [← Nat.mul_assoc]; exact ⟨fun h => Nat.eq_of_mul_eq_mul_right hp h, fun h => by rw [h]⟩
  simp only [a, b]
theorem near_mul (f j : Nat) (E : Int) : near (f * 2 ^ j) E = near f (E + j) := by
  unfold near
  by_cases h : 0 ≤ E
  · rw [if_pos h, if_pos (by omega), Nat.mul_assoc, ← Nat.pow_add]
    congr 2; omega
  · rw [if_neg h]
    by_cases g : 0 ≤ E + j
    · rw [if_pos g, rnd_div (by omega)]
      congr 2; omega
    · rw [if_neg g, rnd_scale (by omega)]
      congr 1; omega
theorem near_up {f : Nat} {p : Nat} : near f (p : Int) = f * 2 ^ p := by
  unfold near; rw [if_pos (by omega)]; congr 2
theorem near_down {f k : Nat} (hk : 0 < k) : near f (-(k : Int)) = rnd f k := by
  unfold near; rw [if_neg (by omega)]; congr 1; omega
theorem near_tiny {f : Nat} {E : Int} (hf : f < 9007199254740992) (hE : E < -60) : near f E = 0 := by
  obtain ⟨k, ek⟩ : ∃ k : Nat, E = -(k : Int) := ⟨(-E).toNat, by omega⟩
  subst ek
  rw [near_down (by omega)]
  have h1 : 2 ^ 60 ≤ 2 ^ k := Nat.pow_le_pow_right (by decide) (by omega)
  have h2 : (2 : Nat) ^ 60 = 1152921504606846976 := by decide
  unfold rnd
  rw [Nat.mod_eq_of_lt (by omega), Nat.div_eq_of_lt (by omega), if_neg (by omega)]
theorem near_great {f : Nat} {E : Int} (hf : 0 < f) (hE : 15 < E) : 32767 < near f E := by
  obtain ⟨k, rfl⟩ : ∃ k : Nat, E = k := ⟨E.toNat, by omega⟩
  rw [near_up]
  have h1 : 2 ^ 16 ≤ 2 ^ k := Nat.pow_le_pow_right (by decide) (by omega)
  have h2 : (2 : Nat) ^ 16 = 65536 := by decide
  have h3 : 1 * 2 ^ k ≤ f * 2 ^ k := Nat.mul_le_mul_right _ hf
  omega
theorem near_more {f p : Nat} (hf : 32767 < f) : 32767 < near f (p : Int) := by
  rw [near_up]
  have h3 : f * 1 ≤ f * 2 ^ p := Nat.mul_le_mul_left _ (Nat.two_pow_pos p)
  omega
theorem odd_part : ∀ M : Nat, 0 < M → ∃ f j : Nat, f % 2 = 1 ∧ f * 2 ^ j = M := by
  intro M
  induction M using Nat.strongRecOn with
  | _ M ih =>
    intro h
    by_cases hm : M % 2 = 1
    · exact ⟨M, 0, hm, by simp⟩
    · obtain ⟨f, j, h1, h2⟩ := ih (M / 2) (by omega) (by omega)
      refine ⟨f, j + 1, h1, ?_⟩
      rw [Nat.pow_succ, ← Nat.mul_assoc, h2]; omega
/-- the parts of a finite value: the size of its first part, and its scaled size by them -/
theorem parts_size {x : Int} (hc : classN x ≤ 2) : ∃ f : Nat, f < 9007199254740992 ∧ partM x = (if sgB x = true then -(f : Int) else f) ∧ (-1074 ≤ partE x ∧ partE x ≤ 1100) ∧ ∀ s : Int, sizeN x s = near f (partE x + s) := by
  have hb := mant_bd x
  have he := e0_bd x
  by_cases h0 : mantN x = 0
  · obtain ⟨h1, h2⟩ := parts_zero hc h0
    refine ⟨0, by omega, by rw [h1]; simp, by omega, fun s => ?_⟩
    unfold sizeN
    rw [h0, near_zero]; exact near_zero _
  · obtain ⟨f, j, h1, h2⟩ := odd_part (mantN x).toNat (by omega)
    obtain ⟨h3, h4⟩ := parts_at hc (by omega) h1 h2
    have hf : f * 1 ≤ f * 2 ^ j := Nat.mul_le_mul_left _ (Nat.two_pow_pos j)
    have hj : j < 54 := by
      rcases Nat.lt_or_ge j 54 with g | g
      · exact g
      · exfalso
        have h5 : 2 ^ 54 ≤ 2 ^ j := Nat.pow_le_pow_right (by decide) g
        have h6 : 1 * 2 ^ j ≤ f * 2 ^ j := Nat.mul_le_mul_right _ (by omega)
        have h7 : (2 : Nat) ^ 54 = 18014398509481984 := by decide
        omega
    refine ⟨f, by omega, h4, by omega, fun s => ?_⟩
    unfold sizeN
    rw [← h2, near_mul, h3]
    congr 1; omega
theorem scale_range {x s : Int} (h : s < 0 ∨ 24 < s) : scaleN x s = 0 ∧ scaleC x s = 2 := by
  have e : scaleC x s = 2 := by unfold scaleC; rw [if_pos h]
  exact ⟨by unfold scaleN; rw [e, if_neg (by omega)], e⟩
theorem scale_class {x s : Int} (h : 0 ≤ s ∧ s ≤ 24) (hc : 2 < classN x) : scaleN x s = 0 ∧ scaleC x s = 1 := by
  have e : scaleC x s = 1 := by unfold scaleC; rw [if_neg (by omega), if_pos hc]
  exact ⟨by unfold scaleN; rw [e, if_neg (by omega)], e⟩
theorem scale_over {x s : Int} (h : 0 ≤ s ∧ s ≤ 24) (hc : classN x ≤ 2) (ho : 32767 < sizeN x s) : scaleN x s = 0 ∧ scaleC x s = 3 := by
  have e : scaleC x s = 3 := by unfold scaleC; rw [if_neg (by omega), if_neg (by omega), if_pos ho]
  exact ⟨by unfold scaleN; rw [e, if_neg (by omega)], e⟩
theorem scale_ok {x s : Int} (h : 0 ≤ s ∧ s ≤ 24) (hc : classN x ≤ 2) (ho : sizeN x s ≤ 32767) : scaleN x s = (if sgB x = true then -(sizeN x s : Int) else sizeN x s) ∧ scaleC x s = 0 := by
  have e : scaleC x s = 0 := by unfold scaleC; rw [if_neg (by omega), if_neg (by omega), if_neg (by omega)]
  exact ⟨by unfold scaleN; rw [if_pos e], e⟩
theorem scale_bd (x s : Int) : -32767 ≤ scaleN x s ∧ scaleN x s ≤ 32767 := by
  unfold scaleN
  split
  · rename_i h
    have : sizeN x s ≤ 32767 := by
      unfold scaleC at h
      split at h
      · omega
      · split at h
        · omega
        · split at h <;> omega
    split <;> omega
  · omega
theorem scaleC_bd (x s : Int) : 0 ≤ scaleC x s ∧ scaleC x s ≤ 3 := by
  unfold scaleC
  split
  · omega
  · split
    · omega
    · split <;> omega
open Go.ChangeShapes Go.WideShapes Go.ChangeAt Go.RowKit
set_option linter.unusedVariables false
set_option linter.unusedSimpArgs false

theorem ret_ii {a b c d : Int} (h : a = b ∧ c = d) : Ending.returned (.tuple #[.int .i64 a, .int .i64 c]) = .returned (.tuple #[.int .i64 b, .int .i64 d]) := by rw [h.1, h.2]
/-- what Scale leaves -/
def ScalePost (x s : Int) (w : World) (e : Ending) (w' : World) : Prop := e = .returned (.tuple #[.int .i64 (scaleN x s), .int .i64 (scaleC x s)]) ∧ w = w'
theorem rscale_out (x s : Int) (w : World) (h : s < 0 ∨ 24 < s) : Calls Tryd.prog 45 #[.int .u64 x, .int .i64 s] w (ScalePost x s w) := by
  have HS := Lib.hid (scale_range (x := x) h)
  go_enter Tryd.func45, Tryd.ntmps45
  rcases h with h | h
  all_goals
    go_wp2_with fail
    go_returns
    exact ⟨ret_ii ⟨HS.out.1.symm, HS.out.2.symm⟩, rfl⟩
theorem rscale_class (x s : Int) (w : World) (hx : In64u x) (h : 0 ≤ s ∧ s ≤ 24) (hc : 2 < classN x) : Calls Tryd.prog 45 #[.int .u64 x, .int .i64 s] w (ScalePost x s w) := by
  have HS := Lib.hid (scale_class (x := x) h hc)
  obtain ⟨p1, p2, p3⟩ := parts_no hc
  have P1 := Lib.hid p1
  have P2 := Lib.hid p2
  have P3 := Lib.hid p3
  have HX := Lib.hid hx
  clear p1 p2 p3 hx hc
  go_enter Tryd.func45, Tryd.ntmps45
  go_wp2_with fail
  refine (rparts_is HX.out P1.out P2.out P3.out _).mono ?_; rintro e w1 ⟨rfl, rfl⟩
  go_wp2_with fail
  go_returns
  exact ⟨ret_ii ⟨HS.out.1.symm, HS.out.2.symm⟩, rfl⟩
/-- the two ends of Scale -/
def ScaleEnd (x s N : Int) : Prop := (32767 < N ∧ scaleN x s = 0 ∧ scaleC x s = 3) ∨ (N ≤ 32767 ∧ scaleN x s = (if sgB x = true then -N else N) ∧ scaleC x s = 0)
theorem scale_end {x s : Int} (h : 0 ≤ s ∧ s ≤ 24) (hc : classN x ≤ 2) {N : Nat} (hN : sizeN x s = N) : ScaleEnd x s N := by
  by_cases g : 32767 < sizeN x s
  · exact .inl ⟨by omega, scale_over h hc g⟩
  · refine .inr ⟨by omega, ?_⟩
    have := scale_ok h hc (by omega)
    rw [hN] at this; exact this
/-- a number halved k times, and what is left: the quotient, what it stands for, the rest and the half -/
theorem rnd_names (f k : Nat) (hk : 0 < k) (hk1 : k ≤ 60) (hf : f < 9007199254740992) : ∃ Q S r H : Nat, (f : Int) / 2 ^ k = Q ∧ wrap64 ((Q : Int) * 2 ^ k) = S ∧ (f : Int) - S = r ∧ wrap64 (2 ^ (k - 1)) = (H : Int) ∧ S ≤ f ∧ Q ≤ f ∧ r ≤ f ∧ H ≤ 576460752303423488 ∧
    ((H < r ∧ rnd f k = Q + 1) ∨ (r = H ∧ Q % 2 = 1 ∧ rnd f k = Q + 1) ∨ (r = H ∧ Q % 2 = 0 ∧ rnd f k = Q) ∨ (r < H ∧ rnd f k = Q)) := by
  have hp := Nat.two_pow_pos k
  have h1 : f / 2 ^ k * 2 ^ k + f % 2 ^ k = f := by rw [Nat.mul_comm]; exact Nat.div_add_mod _ _
  have h2 : f / 2 ^ k ≤ f := Nat.div_le_self _ _
  have h3 : 2 ^ k = 2 * 2 ^ (k - 1) := by rw [← Nat.pow_succ']; congr 1; omega
  have h4 : 2 ^ (k - 1) ≤ 2 ^ 59 := Nat.pow_le_pow_right (by decide) (by omega)
  have h5 : (2 : Nat) ^ 59 = 576460752303423488 := by decide
  have c1 : ((2 : Int) ^ k) = ((2 ^ k : Nat) : Int) := by simp
  have c2 : ((2 : Int) ^ (k - 1)) = ((2 ^ (k - 1) : Nat) : Int) := by simp
  refine ⟨f / 2 ^ k, f / 2 ^ k * 2 ^ k, f % 2 ^ k, 2 ^ (k - 1), ?_, ?_, by omega, ?_, by omega, h2, Nat.mod_le _ _, by omega, ?_⟩
  · rw [c1, ← Int.natCast_ediv]
  · rw [c1, ← Int.natCast_mul]; unfold wrap64; omega
  · rw [c2]; unfold wrap64; omega
  · unfold rnd
    rw [h3]
    generalize f % (2 * 2 ^ (k - 1)) = r
    generalize f / (2 * 2 ^ (k - 1)) = Q
    generalize 2 ^ (k - 1) = H
    by_cases g1 : H < r
    · left; exact ⟨g1, by rw [if_pos (.inl (by omega))]⟩
    · right
      by_cases g2 : r = H
      · by_cases g3 : Q % 2 = 1
        · left; exact ⟨g2, g3, by rw [if_pos (.inr ⟨by omega, g3⟩)]⟩
        · right; left; exact ⟨g2, by omega, by rw [if_neg (by omega)]⟩
      · right; right; exact ⟨by omega, by rw [if_neg (by omega)]⟩
/-- how the rest stands to the half, and what is rounded to -/
def Rounds (Q r H N : Int) : Prop := (H < r ∧ wrap64 (Q + 1) = N) ∨ (r = H ∧ (Q % 2 == 1) = true ∧ wrap64 (Q + 1) = N) ∨ (r = H ∧ (Q % 2 == 1) = false ∧ Q = N) ∨ (r < H ∧ Q = N)
set_option maxRecDepth 100000 in
set_option maxHeartbeats 4000000 in
/-- the walk at an exponent below 0 -/
theorem rscale_walk (x s d m F Q S r H N : Int) (k : Nat) (b : Bool) (w : World) (HX : Hid (In64u x)) (HB : Hid (partB x = true)) (P2 : Hid (partE x = d)) (P1 : Hid (partM x = m)) (h0 : 0 ≤ s) (h1 : s ≤ 24) (hd : -1074 ≤ d ∧ d ≤ 1100)
    (hz : (m == 0) = false) (hzF : (F == 0) = false) (hm : (b = false ∧ m = F ∧ 0 ≤ m) ∨ (b = true ∧ m < 0 ∧ wrap64 (-m) = F)) (hk : d + s = -(k : Int)) (hk0 : 0 < k) (hkI : (k : Int) ≤ 60) (eQ : F / 2 ^ k = Q) (eS : wrap64 (Q * 2 ^ k) = S) (eR : wrap64 (F - S) = r) (eH : wrap64 (2 ^ (k - 1)) = H)
    (hQ : 0 ≤ Q) (hN0 : 0 ≤ N) (hr : Hid (Rounds Q r H N)) (HE : Hid (ScaleEnd x s N)) (Eb : Hid (sgB x = b)) : Calls Tryd.prog 45 #[.int .u64 x, .int .i64 s] w (ScalePost x s w) := by
  by_cases hN : 32767 < N
  · rcases hm with ⟨rfl, rfl, hm⟩ | ⟨rfl, hm, eF⟩
    all_goals
      rcases hr.out with ⟨c1, c2⟩ | ⟨rfl, c1, c2⟩ | ⟨rfl, c1, c2⟩ | ⟨c1, c2⟩
      all_goals
        (try (have c6 : Q = N := c2; subst c6))
        (try (have c3 : ¬ H < r := by omega))
        have c5 : Q.tmod 2 = Q % 2 := Int.tmod_eq_emod_of_nonneg (by first | exact hQ | omega)
        (try (have c4 : (r == H) = false := by simp; omega))
        go_enter Tryd.func45, Tryd.ntmps45
        go_wp2_with fail
        refine (rparts_is HX.out P1.out P2.out HB.out _).mono ?_; rintro e w1 ⟨rfl, rfl⟩
        go_wp2_with fail
        go_returns
        refine ⟨ret_ii ?_, rfl⟩
        rcases HE.out with ⟨_, g1, g2⟩ | ⟨g, _⟩
        · rw [g1, g2]; exact ⟨rfl, rfl⟩
        · exact absurd g (by omega)
  · rcases hm with ⟨rfl, rfl, hm⟩ | ⟨rfl, hm, eF⟩
    all_goals
      rcases hr.out with ⟨c1, c2⟩ | ⟨rfl, c1, c2⟩ | ⟨rfl, c1, c2⟩ | ⟨c1, c2⟩
      all_goals
        (try (have c6 : Q = N := c2; subst c6))
        (try (have c3 : ¬ H < r := by omega))
        have c5 : Q.tmod 2 = Q % 2 := Int.tmod_eq_emod_of_nonneg (by first | exact hQ | omega)
        (try (have c4 : (r == H) = false := by simp; omega))
        go_enter Tryd.func45, Tryd.ntmps45
        go_wp2_with fail
        refine (rparts_is HX.out P1.out P2.out HB.out _).mono ?_; rintro e w1 ⟨rfl, rfl⟩
        go_wp2_with fail
        go_returns
        refine ⟨ret_ii ?_, rfl⟩
        rcases HE.out with ⟨g, _⟩ | ⟨_, g1, g2⟩
        · exact absurd g (by omega)
        · rw [g1, g2, Eb.out]
          first | exact ⟨rfl, rfl⟩ | (simp; done) | (simp; exact c2) | (simp; rw [c2])
set_option maxRecDepth 100000 in
set_option maxHeartbeats 4000000 in
theorem rscale_fin (x s : Int) (w : World) (hx : In64u x) (h : 0 ≤ s ∧ s ≤ 24) (hc : classN x ≤ 2) : Calls Tryd.prog 45 #[.int .u64 x, .int .i64 s] w (ScalePost x s w) := by
  obtain ⟨f, hf, hm, hd, hs⟩ := parts_size hc
  have hsz := hs s
  have hend := fun {N : Nat} hN => scale_end (x := x) (s := s) (N := N) h hc hN
  obtain ⟨d, ed⟩ : ∃ d, partE x = d := ⟨_, rfl⟩
  rw [ed] at hd hsz
  have HB := Lib.hid (partB_t hc)
  have P2 := Lib.hid ed
  have HX := Lib.hid hx
  clear hs ed hx hc
  obtain ⟨h0, h1⟩ := h
  obtain ⟨b, eb⟩ : ∃ b, sgB x = b := ⟨_, rfl⟩
  by_cases hf0 : f = 0
  · subst hf0
    have hm0 : partM x = 0 := by rw [hm]; simp
    have HE := Lib.hid (hend (N := 0) (by rw [hsz]; exact near_zero _))
    have P1 := Lib.hid hm0
    clear hm hend hsz hm0 eb
    go_enter Tryd.func45, Tryd.ntmps45
    go_wp2_with fail
    refine (rparts_is HX.out P1.out P2.out HB.out _).mono ?_; rintro e w1 ⟨rfl, rfl⟩
    go_wp2_with fail
    go_returns
    refine ⟨ret_ii ?_, rfl⟩
    rcases HE.out with ⟨g, _⟩ | ⟨_, g1, g2⟩
    · simp at g
    · rw [g1, g2]; simp
  · have hfz : ((f : Int) == 0) = false := by simp; omega
    have hfz2 : (-(f : Int) == 0) = false := by simp; omega
    have hfp : (0 : Int) < f := by omega
    by_cases e1 : d + s < -60
    · have HE := Lib.hid (hend (N := 0) (by rw [hsz]; exact near_tiny hf e1))
      clear hend hsz
      rw [eb] at hm
      rcases b with _ | _
      all_goals
        have P1 := Lib.hid hm
        clear hm
        go_enter Tryd.func45, Tryd.ntmps45
        go_wp2_with fail
        refine (rparts_is HX.out P1.out P2.out HB.out _).mono ?_; rintro e w1 ⟨rfl, rfl⟩
        go_wp2_with fail
        go_returns
        refine ⟨ret_ii ?_, rfl⟩
        rcases HE.out with ⟨g, _⟩ | ⟨_, g1, g2⟩
        · simp at g
        · rw [g1, g2]; simp
    · by_cases e2 : 15 < d + s
      · obtain ⟨N, eN⟩ : ∃ N, near f (d + s) = N := ⟨_, rfl⟩
        have hN : 32767 < N := by rw [← eN]; exact near_great (by omega) e2
        have HE := Lib.hid (hend (N := N) (by rw [hsz, eN]))
        clear hend hsz eN
        rw [eb] at hm
        rcases b with _ | _
        all_goals
          have P1 := Lib.hid hm
          clear hm
          go_enter Tryd.func45, Tryd.ntmps45
          go_wp2_with fail
          refine (rparts_is HX.out P1.out P2.out HB.out _).mono ?_; rintro e w1 ⟨rfl, rfl⟩
          go_wp2_with fail
          go_returns
          refine ⟨ret_ii ?_, rfl⟩
          rcases HE.out with ⟨_, g1, g2⟩ | ⟨g, _⟩
          · rw [g1, g2]; exact ⟨rfl, rfl⟩
          · exact absurd g (by omega)
      · by_cases e3 : 0 ≤ d + s
        · obtain ⟨p, hp⟩ : ∃ p : Nat, d + s = p := ⟨(d + s).toNat, by omega⟩
          by_cases e4 : 32767 < f
          · obtain ⟨N, eN⟩ : ∃ N, near f (d + s) = N := ⟨_, rfl⟩
            have hN : 32767 < N := by rw [← eN, hp]; exact near_more e4
            have HE := Lib.hid (hend (N := N) (by rw [hsz, eN]))
            clear hend hsz eN
            rw [eb] at hm
            rcases b with _ | _
            all_goals
              have P1 := Lib.hid hm
              clear hm
              go_enter Tryd.func45, Tryd.ntmps45
              go_wp2_with fail
              refine (rparts_is HX.out P1.out P2.out HB.out _).mono ?_; rintro e w1 ⟨rfl, rfl⟩
              go_wp2_with fail
              go_returns
              refine ⟨ret_ii ?_, rfl⟩
              rcases HE.out with ⟨_, g1, g2⟩ | ⟨g, _⟩
              · rw [g1, g2]; exact ⟨rfl, rfl⟩
              · exact absurd g (by omega)
          · obtain ⟨N, eN⟩ : ∃ N : Nat, f * 2 ^ p = N := ⟨_, rfl⟩
            have hNb : N ≤ 2147483647 := by
              have h2 : 2 ^ p ≤ 2 ^ 15 := Nat.pow_le_pow_right (by decide) (by omega)
              have h3 : f * 2 ^ p ≤ 32767 * 2 ^ 15 := Nat.mul_le_mul (by omega) h2
              have h4 : 32767 * 2 ^ 15 = 1073709056 := by decide
              omega
            have hw : wrap64 ((f : Int) * 2 ^ p) = (N : Int) := by
              have c1 : ((f : Int) * 2 ^ p) = ((f * 2 ^ p : Nat) : Int) := by simp
              rw [c1, eN]; unfold wrap64; omega
            have HE := Lib.hid (hend (N := N) (by rw [hsz, hp, near_up, eN]))
            have Eb := Lib.hid eb
            have hpI : (p : Int) ≤ 15 := by omega
            clear hend hsz eN
            rw [eb] at hm
            clear eb
            by_cases hN : 32767 < (N : Int)
            · rcases b with _ | _
              all_goals
                have P1 := Lib.hid hm
                clear hm
                go_enter Tryd.func45, Tryd.ntmps45
                go_wp2_with fail
                refine (rparts_is HX.out P1.out P2.out HB.out _).mono ?_; rintro e w1 ⟨rfl, rfl⟩
                go_wp2_with fail
                go_returns
                refine ⟨ret_ii ?_, rfl⟩
                rcases HE.out with ⟨_, g1, g2⟩ | ⟨g, _⟩
                · rw [g1, g2]; exact ⟨rfl, rfl⟩
                · exact absurd g (by omega)
            · rcases b with _ | _
              all_goals
                have P1 := Lib.hid hm
                clear hm
                go_enter Tryd.func45, Tryd.ntmps45
                go_wp2_with fail
                refine (rparts_is HX.out P1.out P2.out HB.out _).mono ?_; rintro e w1 ⟨rfl, rfl⟩
                go_wp2_with fail
                go_returns
                refine ⟨ret_ii ?_, rfl⟩
                rcases HE.out with ⟨g, _⟩ | ⟨_, g1, g2⟩
                · exact absurd g (by omega)
                · rw [g1, g2, Eb.out]; simp [hw]
        · obtain ⟨k, hk⟩ : ∃ k : Nat, d + s = -(k : Int) := ⟨(-(d + s)).toNat, by omega⟩
          have hk0 : 0 < k := by omega
          have hk1 : k ≤ 60 := by omega
          obtain ⟨Q, S, r, H, eQ, eS, eR, eH, bS, bQ, br, bH, hcase⟩ := rnd_names f k hk0 hk1 hf
          have hsz2 : sizeN x s = rnd f k := by rw [hsz, hk, near_down hk0]
          have HE := Lib.hid (hend (N := rnd f k) hsz2)
          have ES := Lib.hid eS
          have EH := Lib.hid eH
          clear eS eH
          have w1 : Hid (wrap64 ((Q : Int) + 1) = Q + 1) := Lib.hid (by unfold wrap64; omega)
          refine rscale_walk x s d (partM x) f Q S r H (rnd f k) k b w HX HB P2 (Lib.hid rfl) h0 h1 hd ?_ hfz ?_ hk hk0 (by omega) eQ ES.out (by rw [eR]; unfold wrap64; omega) EH.out (by omega) (by omega) (Lib.hid ?_) HE (Lib.hid eb)
          · rw [hm]; split
            · exact hfz2
            · exact hfz
          · rw [hm, eb]
            rcases b with _ | _
            · left; exact ⟨rfl, by simp, by simp⟩
            · right; refine ⟨rfl, by simp; omega, ?_⟩
              simp only [if_true, Int.neg_neg]; unfold wrap64; omega
          · unfold Rounds
            rcases hcase with ⟨c1, c2⟩ | ⟨c1, c2, c3⟩ | ⟨c1, c2, c3⟩ | ⟨c1, c2⟩
            · left; exact ⟨by omega, by rw [w1.out, c2]; rfl⟩
            · right; left; exact ⟨by omega, by simp; omega, by rw [w1.out, c3]; rfl⟩
            · right; right; left; exact ⟨by omega, by simp; omega, by rw [c3]⟩
            · right; right; right; exact ⟨by omega, by rw [c2]⟩
/-- Scale, at every value and shift -/
theorem rscale_any (x s : Int) (w : World) (hx : In64u x) : Calls Tryd.prog 45 #[.int .u64 x, .int .i64 s] w (ScalePost x s w) := by
  by_cases h : s < 0 ∨ 24 < s
  · exact rscale_out x s w h
  · by_cases hc : 2 < classN x
    · exact rscale_class x s w hx (by omega) hc
    · exact rscale_fin x s w hx (by omega) (by omega)
theorem rscale_is {x s n c : Int} (hx : In64u x) (hn : scaleN x s = n) (hc : scaleC x s = c) (w : World) : Calls Tryd.prog 45 #[.int .u64 x, .int .i64 s] w fun e w' => e = .returned (.tuple #[.int .i64 n, .int .i64 c]) ∧ w = w' := by
  have := rscale_any x s w hx
  unfold ScalePost at this
  rw [hn, hc] at this; exact this
end Go.Proofs.YtjmdpebocchdhaaDoor
