/- Bits of numbers of 64 bits: the sign alone, all but the sign, the lowest bit that is set, the lowest bits of a negative number. No program is named. The small functions of the package ieee as contracts: fields, signs, trailing zeros, classes, parts, the order of values. They leave the world as it is. Parts, the order of values and Compare of the package ieee as contracts. They leave the world as it is. The order of values and Compare of the package ieee as contracts. They leave the world as it is. The nearest integer of the package ieee as a contract. It leaves the world as it is. Scale of the package ieee as a contract: the number and the code; the world gets new blocks at most. slices.Max, slices.Index and Quantize of the package ieee as contracts: the list and the code; the world gets new blocks at most. Quantize of the package ieee as a contract: the list and the code; the world gets new blocks at most. -/
import Derived.Test.YtjmdpebocchdhaaDoorFPlain
import Derived.Lib.TrailingZeros
import Derived.Test.YtjmdpebocchdhaaDoorFQuantPlain
import Derived.Lib.MinMax
namespace Go.Proofs.YtjmdpebocchdhaaDoor
set_option linter.unusedVariables false
set_option linter.unusedSimpArgs false

theorem bv_u {x : Int} (h : In64u x) : (BitVec.ofInt 64 x).toNat = x.toNat := by
  obtain ⟨a, rfl⟩ := Int.eq_ofNat_of_zero_le h.1
  have ha : a < 18446744073709551616 := by have := h.2; omega
  rw [BitVec.ofInt_natCast, BitVec.toNat_ofNat]; exact Nat.mod_eq_of_lt (by simpa using ha)
theorem nat_and_sign (a : Nat) (ha : a < 18446744073709551616) : a &&& 9223372036854775808 = if 9223372036854775808 ≤ a then 9223372036854775808 else 0 := by
  have e : (9223372036854775808 : Nat) = 2 ^ 63 := by decide
  have key : a &&& 2 ^ 63 = if a.testBit 63 then 2 ^ 63 else 0 := by
    apply Nat.eq_of_testBit_eq
    intro j
    rw [Nat.testBit_and, Nat.testBit_two_pow]
    by_cases g : 63 = j
    · subst g; cases a.testBit 63 <;> simp only [Bool.false_and, Bool.true_and, if_true, if_false, Bool.false_eq_true, Nat.testBit_two_pow, Nat.zero_testBit, decide_true]
    · have g' : decide (63 = j) = false := by simp [g]
      rw [g', Bool.and_false]
      cases a.testBit 63 <;> simp only [if_true, if_false, Bool.false_eq_true, Nat.testBit_two_pow, Nat.zero_testBit, g']
  have hb : a.testBit 63 = decide (9223372036854775808 ≤ a) := by
    rw [Nat.testBit_eq_decide_div_mod_eq]
    congr 1
    rw [← e]
    apply propext
    omega
  rw [e, key, hb]
  simp
theorem and_sign {x : Int} (h : In64u x) : bits .and .u64 x 9223372036854775808 = if sgB x = true then 9223372036854775808 else 0 := by
  obtain ⟨a, rfl⟩ := Int.eq_ofNat_of_zero_le h.1
  have ha : a < 18446744073709551616 := by have := h.2; omega
  have := bits_and_u64_nat a 9223372036854775808 ha (by decide)
  have e2 : ((9223372036854775808 : Nat) : Int) = 9223372036854775808 := rfl
  rw [e2] at this
  rw [this, nat_and_sign a ha]
  unfold sgB
  by_cases g : 9223372036854775808 ≤ a
  · rw [if_pos g, if_pos (by simp; omega)]; rfl
  · rw [if_neg g, if_neg (by simp; omega)]; rfl
theorem and_sign_ne {x : Int} (h : In64u x) : (bits .and .u64 x 9223372036854775808 != 0) = sgB x := by
  rw [and_sign h]
  cases sgB x <;> simp
theorem and_not {x : Int} (h : In64u x) : bits .andNot .u64 x 9223372036854775808 = x % 9223372036854775808 := by
  have e1 := bv_u h
  have e2 : (~~~ (BitVec.ofInt 64 (9223372036854775808 : Int))).toNat = 9223372036854775807 := by decide
  show IntKind.u64.wrap ((BitVec.ofInt 64 x &&& ~~~ BitVec.ofInt 64 (9223372036854775808 : Int)).toNat : Int) = _
  rw [BitVec.toNat_and, e1, e2, IntKind.wrap_u64]
  have e3 : x.toNat &&& 9223372036854775807 = x.toNat % 9223372036854775808 := Nat.and_two_pow_sub_one_eq_mod x.toNat 63
  rw [e3]
  obtain ⟨h0, h1⟩ := h
  omega
/-- the lowest bit of a number that is set -/
theorem tz_lib {M : Nat} (h0 : M ≠ 0) (h : M < 18446744073709551616) : tz M = Lib.ctz 64 M ∧ tz M < 64 := by
  obtain ⟨m, hm, hk⟩ := Lib.ctzFrom_spec 64 M (by omega) (by simpa using h)
  have e : Lib.ctz 64 M = Lib.ctzFrom 64 M := by simp [Lib.ctz, h0]
  have h1 := (tz_is (M := M) (f := 2 * m + 1) (j := Lib.ctzFrom 64 M) h (by omega) (by rw [Nat.mul_comm]; exact hm.symm)).1
  rw [e, h1]; exact ⟨rfl, hk⟩
theorem low_bit {M : Nat} (h0 : M ≠ 0) (h : M < 18446744073709551616) : bits .and .u64 (M : Int) (18446744073709551616 - (M : Int)) = ((2 ^ tz M : Nat) : Int) := by
  have e1 : (18446744073709551616 - (M : Int)) = ((18446744073709551616 - M : Nat) : Int) := by omega
  rw [e1, bits_and_u64_nat M _ h (by omega)]
  have := (Lib.lowest_bit 64 M h0 (by simpa using h)).1
  have e2 : (2 : Nat) ^ 64 = 18446744073709551616 := by decide
  rw [e2] at this
  rw [this, (tz_lib h0 h).1]
/-- the table of the lowest bits -/
def tabZ : List Int := Lib.deBruijn64tab.map (fun (n : Nat) => Int.ofNat n)
theorem tab_len : tabZ.length = 64 := by decide
/-- where the table is looked up, and what stands there -/
theorem tab_at {k : Nat} (h : k < 64) : ∃ j : Nat, j < 64 ∧ 2 ^ k * 285870213051353865 % 18446744073709551616 / 288230376151711744 = j ∧ tabZ.getD j 0 = (k : Int) := by
  obtain ⟨j, ej⟩ : ∃ j, 2 ^ k * 285870213051353865 % 18446744073709551616 / 288230376151711744 = j := ⟨_, rfl⟩
  have hD := Lib.deBruijn64_at k h
  rw [ej] at hD
  obtain ⟨h1, h2⟩ := hD
  refine ⟨j, h1, ej, ?_⟩
  clear ej
  have hl : Lib.deBruijn64tab.length = 64 := by decide
  unfold tabZ
  generalize Lib.deBruijn64tab = T at *
  rw [List.getD_eq_getElem?_getD] at h2
  rw [List.getD_eq_getElem?_getD, List.getElem?_map]
  rw [List.getElem?_eq_getElem (by rw [hl]; exact h1)] at h2 ⊢
  simp only [Option.getD_some] at h2
  simp only [Option.map_some, Option.getD_some, h2]; rfl
/-- the lowest bits of a number, negative ones too -/
theorem mask_neg {m : Int} {k : Nat} (h0 : -9223372036854775808 ≤ m) (h1 : m ≤ 9223372036854775807) (hk : k ≤ 62) : bits .and .i64 m (2 ^ k - 1) = m % 2 ^ k := by
  have hp := Nat.two_pow_pos k
  have h62 : 2 ^ k ≤ 2 ^ 62 := Nat.pow_le_pow_right (by decide) hk
  have e62 : (2 : Nat) ^ 62 = 4611686018427387904 := by decide
  have c : ((2 : Int) ^ k) = ((2 ^ k : Nat) : Int) := by simp
  have e1 : (BitVec.ofInt 64 m).toNat = (m % 18446744073709551616).toNat := by rw [BitVec.toNat_ofInt]; rfl
  have e2 : (BitVec.ofInt 64 ((2 : Int) ^ k - 1)).toNat = 2 ^ k - 1 := by
    rw [c, BitVec.toNat_ofInt]
    omega
  show IntKind.i64.wrap ((BitVec.ofInt 64 m &&& BitVec.ofInt 64 ((2 : Int) ^ k - 1)).toNat : Int) = _
  rw [BitVec.toNat_and, e1, e2, Nat.and_two_pow_sub_one_eq_mod, IntKind.wrap_i64]
  have e3 : (((m % 18446744073709551616).toNat % 2 ^ k : Nat) : Int) = m % 2 ^ k := by
    rw [Int.natCast_emod, Int.toNat_of_nonneg (by omega), c]
    refine Int.emod_emod_of_dvd m ?_
    have : (18446744073709551616 : Int) = ((2 ^ 64 : Nat) : Int) := by decide
    rw [this]
    exact Int.natCast_dvd_natCast.2 (Nat.pow_dvd_pow 2 (by omega))
  rw [e3]
  have h2 : 0 ≤ m % 2 ^ k := Int.emod_nonneg _ (by rw [c]; omega)
  have h3 : m % 2 ^ k < 2 ^ k := Int.emod_lt_of_pos _ (by rw [c]; omega)
  rw [c] at h2 h3 ⊢
  omega
/-- a negative number rounded down, with what is left, stands for the nearest one by size -/
theorem down_neg {f k : Nat} (hk : 0 < k) (hf : 0 < f) : ∃ Q r : Nat, (-(f : Int)) / 2 ^ k = -(Q : Int) ∧ (-(f : Int)) % 2 ^ k = (r : Int) ∧ r < 2 ^ k ∧ Q ≤ f ∧
    ((2 ^ (k - 1) < r ∧ (rnd f k : Int) + 1 = Q) ∨ (r = 2 ^ (k - 1) ∧ Q % 2 = 1 ∧ (rnd f k : Int) + 1 = Q) ∨ (r = 2 ^ (k - 1) ∧ Q % 2 = 0 ∧ rnd f k = Q) ∨ (r < 2 ^ (k - 1) ∧ rnd f k = Q)) := by
  have hp := Nat.two_pow_pos k
  have h3 : 2 ^ k = 2 * 2 ^ (k - 1) := by rw [← Nat.pow_succ']; congr 1; omega
  have c : ((2 : Int) ^ k) = ((2 ^ k : Nat) : Int) := by simp
  have hpos := Nat.two_pow_pos (k - 1)
  have hd := Nat.div_add_mod f (2 ^ k)
  have hm := Nat.mod_lt f hp
  have hle : f / 2 ^ k ≤ f := Nat.div_le_self _ _
  rw [c]
  unfold rnd
  rw [h3] at hd hm hle ⊢
  generalize 2 ^ (k - 1) = H at *
  generalize hQ : f / (2 * H) = q at *
  generalize hR : f % (2 * H) = s at *
  by_cases g : s = 0
  · subst g
    refine ⟨q, 0, ?_, ?_, by omega, by omega, ?_⟩
    · have : -(f : Int) = -(q : Int) * ((2 * H : Nat) : Int) := by rw [Int.neg_mul, ← Int.natCast_mul, Nat.mul_comm q]; omega
      rw [this]; exact Int.mul_ediv_cancel _ (by omega)
    · have : -(f : Int) = -(q : Int) * ((2 * H : Nat) : Int) := by rw [Int.neg_mul, ← Int.natCast_mul, Nat.mul_comm q]; omega
      rw [this, Int.mul_emod_left]; rfl
    · right; right; right
      refine ⟨by omega, ?_⟩
      rw [if_neg (by omega)]
  · have e : -(f : Int) = ((2 * H - s : Nat) : Int) + (-((q : Int) + 1)) * ((2 * H : Nat) : Int) := by
      rw [Int.neg_mul, Int.add_mul, ← Int.natCast_mul, Nat.mul_comm q]; omega
    refine ⟨q + 1, 2 * H - s, ?_, ?_, by omega, ?_, ?_⟩
    · rw [e, Int.add_mul_ediv_right _ _ (by omega), Int.ediv_eq_zero_of_lt (by omega) (by omega)]; omega
    · rw [e, Int.add_mul_emod_self_right, Int.emod_eq_of_lt (by omega) (by omega)]
    · rcases Nat.eq_zero_or_pos q with e0 | e0
      · omega
      · have : q * 1 ≤ q * (2 * H) := Nat.mul_le_mul_left _ (by omega)
        rw [Nat.mul_comm q (2 * H)] at this
        omega
    · by_cases g1 : s < H
      · left; exact ⟨by omega, by rw [if_neg (by omega)]; omega⟩
      · by_cases g2 : s = H
        · by_cases g3 : q % 2 = 1
          · right; right; left
            exact ⟨by omega, by omega, by rw [if_pos (.inr ⟨by omega, g3⟩)]⟩
          · right; left
            exact ⟨by omega, by omega, by rw [if_neg (by omega)]; omega⟩
        · right; right; right
          exact ⟨by omega, by rw [if_pos (.inl (by omega))]⟩
open Go.ChangeShapes Go.WideShapes Go.ChangeAt Go.RowKit
set_option linter.unusedVariables false
set_option linter.unusedSimpArgs false

/-- the table of the lowest bits lies in the variable -/
def TabZ (w : World) : Prop := ∀ i, i < 64 → w.cell? ⟨0, i, none⟩ = some (.int .u8 (tabZ.getD i 0))
theorem TabZ.below {W w : World} (h : TabZ W) (hb : Below W.heap.size W w) : TabZ w := fun i hi => bkeep hb (h i hi)
theorem tz64_any (M : Nat) (w : World) (h0 : M ≠ 0) (h1 : M < 18446744073709551616) (hT : TabZ w) :
    Calls Tryd.prog 56 #[.int .u64 M] w fun e w' => e = .returned (.int .i64 (tz M)) ∧ w = w' := by
  obtain ⟨hz, hz1⟩ := tz_lib h0 h1
  obtain ⟨j, hj, ej, et⟩ := tab_at hz1
  have hc := hT j hj
  rw [et] at hc
  have hn : ((M : Int) == 0) = false := by simp; omega
  have a1 := Lib.hid (low_bit h0 h1)
  have E1 := Lib.hid ej
  have Z1 := Lib.hid hz1
  have H0 := Lib.hid h0
  have H1 := Lib.hid h1
  have hjI : (j : Int) < 64 := by omega
  obtain ⟨N, eN⟩ : ∃ N : Int, IntKind.u64.wrap (-(M : Int)) = N := ⟨_, rfl⟩
  have eN2 : N = 18446744073709551616 - (M : Int) := by rw [← eN, IntKind.wrap_u64]; omega
  obtain ⟨K, eK⟩ : ∃ K : Int, bits .and .u64 (M : Int) N = K := ⟨_, rfl⟩
  have eK2 : K = ((2 ^ tz M : Nat) : Int) := by rw [← eK, eN2]; exact a1.out
  obtain ⟨D, eD⟩ : ∃ D : Int, IntKind.u64.wrap (K * 285870213051353865) = D := ⟨_, rfl⟩
  have eJ : D / 288230376151711744 = (j : Int) := by
    rw [← eD, eK2, IntKind.wrap_u64, ← ej]
    simp
  clear a1 hz et ej hz1 h0 h1 eN2 eK2
  go_enter Tryd.func56, Tryd.ntmps56
  go_wp2_with fail
  go_returns
  refine ⟨ret_int ?_, rfl⟩
  have := Z1.out
  unfold wrap64; omega
theorem trailing_any (M : Nat) (w : World) (h0 : M ≠ 0) (h1 : M < 18446744073709551616) (hT : TabZ w) :
    Calls Tryd.prog 52 #[.int .u64 M] w fun e w' => e = .returned (.int .i64 (tz M)) ∧ w = w' := by
  have H := Lib.hid (fun w (g : TabZ w) => tz64_any M w h0 h1 g)
  have HT := Lib.hid hT
  clear h0 h1 hT
  go_enter Tryd.func52, Tryd.ntmps52
  go_wp2_with fail
  refine (H.out _ HT.out).mono ?_; rintro e w1 ⟨rfl, rfl⟩
  go_wp2_with fail
  go_returns
  exact ⟨rfl, rfl⟩
theorem expo_is {x e : Int} (h : In64u x) (he : exN x = e) (w : World) :
    Calls Tryd.prog 51 #[.int .u64 x] w fun e' w' => e' = .returned (.int .i64 e) ∧ w = w' := by
  subst he
  have a1 := Lib.hid (and_exp h)
  have b1 := Lib.hid (ex_bd x)
  clear h
  go_enter Tryd.func51, Tryd.ntmps51
  go_wp2_with fail
  go_returns
  refine ⟨ret_int ?_, rfl⟩
  show wrap64 (bits BinOp.and IntKind.u64 (x / 4503599627370496) 2047) = _
  rw [a1.out]; have := b1.out; unfold wrap64; omega
theorem signed_is {x n : Int} {s : Bool} (h : In64u x) (hs : sgB x = s) (h0 : 0 ≤ n) (h1 : n ≤ 9223372036854775807) (w : World) :
    Calls Tryd.prog 53 #[.int .u64 x, .int .u64 n] w fun e' w' => e' = .returned (.int .i64 (if s = true then -n else n)) ∧ w = w' := by
  have a1 := and_sign_ne h
  rw [hs] at a1
  have hn : wrap64 n = n := by unfold wrap64; omega
  have hm : wrap64 (-n) = -n := by unfold wrap64; omega
  have Hn := Lib.hid hn
  have Hm := Lib.hid hm
  clear h hs hn hm
  rcases s with _ | _
  all_goals
    go_enter Tryd.func53, Tryd.ntmps53
    go_wp2_with fail
    go_returns
    refine ⟨ret_int ?_, rfl⟩
    first | rfl | (simp; done)
theorem class_is {x c : Int} (h : In64u x) (hc : classN x = c) (w : World) : Calls Tryd.prog 50 #[.int .u64 x] w fun e w' => e = .returned (.int .i64 c) ∧ w = w' := by
  obtain ⟨e, ee⟩ : ∃ e, exN x = e := ⟨_, rfl⟩
  obtain ⟨f, ef⟩ : ∃ f, frN x = f := ⟨_, rfl⟩
  have b1 := ex_bd x
  have b2 := fr_bd x
  have HC : Hid (c = if e = 2047 ∧ f = 0 then 3 else if e = 2047 then 4 else if 0 < e then 2 else if 0 < f then 1 else 0) := Lib.hid (by rw [← hc]; unfold classN; rw [ee, ef])
  have eF : bits .and .u64 x 4503599627370495 = f := by rw [← ef]; exact and_frac h
  rw [ee] at b1
  rw [ef] at b2
  have Ee := Lib.hid ee
  have H := Lib.hid h
  clear ee ef h hc
  go_enter Tryd.func50, Tryd.ntmps50
  go_wp2_with fail
  refine (expo_is H.out Ee.out _).mono ?_; rintro e' w' ⟨rfl, rfl⟩
  go_wp2_with fail
  all_goals
    go_ret
    refine ⟨ret_int ?_, rfl⟩
    rw [HC.out]
    simp at *
    (repeat' split) <;> omega
/-- what is left when all halves are taken out -/
theorem parts_tz {x : Int} (hc : classN x ≤ 2) (hm : 0 < mantN x) : ∃ M k F : Nat, mantN x = M ∧ M ≠ 0 ∧ M < 9007199254740992 ∧ tz M = k ∧ k < 64 ∧ (M : Int) / 2 ^ k = F ∧ F < 9007199254740992 ∧ partE x = e0N x + k ∧ partM x = (if sgB x = true then -(F : Int) else F) := by
  have hb := mant_bd x
  obtain ⟨f, j, h1, h2⟩ := odd_part (mantN x).toNat (by omega)
  obtain ⟨h3, h4⟩ := parts_at hc hm h1 h2
  obtain ⟨h5, h6⟩ := tz_is (M := (mantN x).toNat) (by omega) h1 h2
  have h7 := (tz_lib (M := (mantN x).toNat) (by omega) (by omega)).2
  have h8 : f * 1 ≤ f * 2 ^ j := Nat.mul_le_mul_left _ (Nat.two_pow_pos j)
  refine ⟨(mantN x).toNat, j, f, by omega, by omega, by omega, h5, by omega, ?_, by omega, h3, h4⟩
  have c : ((2 : Int) ^ j) = ((2 ^ j : Nat) : Int) := by simp
  rw [c, ← Int.natCast_ediv, h6]
open Go.ChangeShapes Go.WideShapes Go.ChangeAt Go.RowKit
set_option linter.unusedVariables false
set_option linter.unusedSimpArgs false

theorem parts_any (x : Int) (w : World) (h : In64u x) (hT : TabZ w) : Calls Tryd.prog 47 #[.int .u64 x] w (PartsPost x w) := by
  have HT := Lib.hid hT
  obtain ⟨c, ec⟩ : ∃ c, classN x = c := ⟨_, rfl⟩
  have hcb := class_bd x
  rw [ec] at hcb
  have H := Lib.hid h
  obtain ⟨f, ef⟩ : ∃ f, frN x = f := ⟨_, rfl⟩
  have eF : bits .and .u64 x 4503599627370495 = f := by rw [← ef]; exact and_frac h
  by_cases hc : 2 < c
  · have HP := Lib.hid (parts_no (x := x) (by omega))
    have Ec := Lib.hid ec
    clear ec h hT ef
    rcases (show c = 3 ∨ c = 4 by omega) with rfl | rfl
    all_goals
      go_enter Tryd.func47, Tryd.ntmps47
      go_wp2_with fail
      refine (class_is H.out Ec.out _).mono ?_; rintro e' w' ⟨rfl, rfl⟩
      go_wp2_with fail
      go_returns
      exact ⟨ret_iib ⟨HP.out.1.symm, HP.out.2.1.symm, HP.out.2.2.symm⟩, rfl⟩
  · have hcl : classN x ≤ 2 := by omega
    have HB := Lib.hid (partB_t hcl)
    obtain ⟨s, es⟩ : ∃ s, sgB x = s := ⟨_, rfl⟩
    obtain ⟨e, ee⟩ : ∃ e, exN x = e := ⟨_, rfl⟩
    have b1 := ex_bd x
    have b2 := fr_bd x
    have hcd : (c = 0 ∧ e = 0 ∧ f = 0) ∨ (c = 1 ∧ e = 0 ∧ 0 < f) ∨ (c = 2 ∧ 0 < e) := by
      unfold classN at ec
      rw [ee, ef] at ec
      rw [ee] at b1
      rw [ef] at b2
      split at ec
      · omega
      · split at ec
        · omega
        · split at ec
          · omega
          · split at ec <;> omega
    rw [ee] at b1
    rw [ef] at b2
    have hm : mantN x = if 0 < e then f + 4503599627370496 else f := by unfold mantN; rw [ee, ef]
    have he0 : e0N x = (if 0 < e then e else 1) - 1075 := by unfold e0N; rw [ee]
    have Ec := Lib.hid ec
    have Es := Lib.hid es
    have Ee := Lib.hid ee
    have HZ := Lib.hid (fun h0 => parts_zero hcl h0)
    have HPT := Lib.hid (fun h0 => parts_tz hcl h0)
    clear ec es ee ef h hT hcl
    rcases hcd with ⟨rfl, rfl, rfl⟩ | ⟨rfl, rfl, hf⟩ | ⟨rfl, he⟩
    · have HZ2 := Lib.hid (HZ.out (by rw [hm]; rfl))
      clear hm he0 HZ HPT
      go_enter Tryd.func47, Tryd.ntmps47
      go_wp2_with fail
      refine (class_is H.out Ec.out _).mono ?_; rintro e' w' ⟨rfl, rfl⟩
      go_wp2_with fail
      go_returns
      exact ⟨ret_iib ⟨HZ2.out.1.symm, HZ2.out.2.symm, HB.out.symm⟩, rfl⟩
    · rw [if_neg (by omega)] at hm he0
      obtain ⟨M, k, F, hM, hM0, hM1, hk, hk1, hF, hF1, hE, hP⟩ := HPT.out (by rw [hm]; exact hf)
      rw [hm] at hM
      subst hM
      have HK := Lib.hid hk
      have HE := Lib.hid (show partE x = -1074 + (k : Int) by rw [hE, he0]; rfl)
      have HP := Lib.hid hP
      have HM0 := Lib.hid hM0
      have HM1 := Lib.hid (show M < 18446744073709551616 by omega)
      have hkI : (k : Int) ≤ 64 := by omega
      clear hm he0 HZ HPT hE hP hk hM0 hM1
      rcases s with _ | _
      all_goals
        go_enter Tryd.func47, Tryd.ntmps47
        go_wp2_with fail
        refine (class_is H.out Ec.out _).mono ?_; rintro e' w' ⟨rfl, rfl⟩
        go_wp2_with fail
        refine (trailing_any M _ HM0.out HM1.out HT.out).mono ?_; rintro e' w' ⟨rfl, rfl⟩
        rw [HK.out]
        go_wp2_with fail
        refine (signed_is H.out Es.out (by omega) (by omega) _).mono ?_; rintro e' w' ⟨rfl, rfl⟩
        go_wp2_with fail
        go_returns
        refine ⟨ret_iib ⟨?_, ?_, HB.out.symm⟩, rfl⟩
        · rw [HP.out, Es.out]; rfl
        · have := HE.out; omega
    · rw [if_pos he] at hm he0
      obtain ⟨M, k, F, hM, hM0, hM1, hk, hk1, hF, hF1, hE, hP⟩ := HPT.out (by rw [hm]; omega)
      rw [hm] at hM
      have eM : IntKind.u64.wrap (f + 4503599627370496) = (M : Int) := by rw [hM, IntKind.wrap_u64]; omega
      have HK := Lib.hid hk
      have HE := Lib.hid (show partE x = e - 1075 + (k : Int) by rw [hE, he0])
      have HP := Lib.hid hP
      have HM0 := Lib.hid hM0
      have HM1 := Lib.hid (show M < 18446744073709551616 by omega)
      have hkI : (k : Int) ≤ 64 := by omega
      clear hm he0 HZ HPT hE hP hk hM0 hM1 hM
      rcases s with _ | _
      all_goals
        go_enter Tryd.func47, Tryd.ntmps47
        go_wp2_with fail
        refine (class_is H.out Ec.out _).mono ?_; rintro e' w' ⟨rfl, rfl⟩
        go_wp2_with fail
        refine (expo_is H.out Ee.out _).mono ?_; rintro e' w' ⟨rfl, rfl⟩
        go_wp2_with fail
        refine (trailing_any M _ HM0.out HM1.out HT.out).mono ?_; rintro e' w' ⟨rfl, rfl⟩
        rw [HK.out]
        go_wp2_with fail
        refine (signed_is H.out Es.out (by omega) (by omega) _).mono ?_; rintro e' w' ⟨rfl, rfl⟩
        go_wp2_with fail
        go_returns
        refine ⟨ret_iib ⟨?_, ?_, HB.out.symm⟩, rfl⟩
        · rw [HP.out, Es.out]; rfl
        · have := HE.out; omega
theorem parts_is {x m d : Int} {b : Bool} (h : In64u x) (hm : partM x = m) (hd : partE x = d) (hb : partB x = b) (w : World) (hT : TabZ w) : Calls Tryd.prog 47 #[.int .u64 x] w fun e w' => e = .returned (.tuple #[.int .i64 m, .int .i64 d, .bool b]) ∧ w = w' := by
  have := parts_any x w h hT
  unfold PartsPost at this
  rw [hm, hd, hb] at this; exact this
open Go.ChangeShapes Go.WideShapes Go.ChangeAt Go.RowKit
set_option linter.unusedVariables false
set_option linter.unusedSimpArgs false

/-- what Compare leaves -/
def CmpPost' (a b : Int) (w : World) (e : Ending) (w' : World) : Prop := e = .returned (.tuple #[.int .i64 (cmpN a b), .bool (cmpB a b)]) ∧ w = w'
theorem shiftOk_any (s : Int) (w : World) : Calls Tryd.prog 42 #[.int .i64 s] w fun e w' => e = .returned (.bool (decide (0 ≤ s ∧ s ≤ 24))) ∧ w = w' := by
  go_enter Tryd.func42, Tryd.ntmps42
  go_wp2
  all_goals (go_ret; refine ⟨ret_bool ?_, rfl⟩; first | (simp; done) | (simp; omega) | (simp at *; omega))
theorem weightOk_any (s : Int) (w : World) : Calls Tryd.prog 44 #[.int .i64 s] w fun e w' => e = .returned (.bool (decide (-32767 ≤ s ∧ s ≤ 32767))) ∧ w = w' := by
  go_enter Tryd.func44, Tryd.ntmps44
  go_wp2
  all_goals (go_ret; refine ⟨ret_bool ?_, rfl⟩; first | (simp; done) | (simp; omega) | (simp at *; omega))
theorem shiftOk_is {s : Int} {b : Bool} (h : decide (0 ≤ s ∧ s ≤ 24) = b) (w : World) : Calls Tryd.prog 42 #[.int .i64 s] w fun e w' => e = .returned (.bool b) ∧ w = w' := by
  rw [← h]; exact shiftOk_any s w
theorem weightOk_is {s : Int} {b : Bool} (h : decide (-32767 ≤ s ∧ s ≤ 32767) = b) (w : World) : Calls Tryd.prog 44 #[.int .i64 s] w fun e w' => e = .returned (.bool b) ∧ w = w' := by
  rw [← h]; exact weightOk_any s w
open Go.ChangeShapes Go.WideShapes Go.ChangeAt Go.RowKit
set_option linter.unusedVariables false
set_option linter.unusedSimpArgs false

/-- a number with a sign -/
def sg (b : Bool) (f : Nat) : Int := if b = true then -(f : Int) else f
theorem sg_bd (b : Bool) (f : Nat) : -(f : Int) ≤ sg b f ∧ sg b f ≤ f := by unfold sg; split <;> omega
theorem sg_two (b : Bool) (f : Nat) : sg b f * 2 = sg b (2 * f) := by unfold sg; split <;> omega
theorem sg_in (b : Bool) (f : Nat) : (-32767 ≤ sg b f ∧ sg b f ≤ 32767) ↔ f ≤ 32767 := by unfold sg; split <;> omega
/-- the nearest integer, or any number that is no weight -/
def NearIs (f : Nat) (E : Int) (b : Bool) (n : Int) : Prop := (near f E ≤ 32767 ∧ n = sg b (near f E)) ∨ (32767 < near f E ∧ (n < -32767 ∨ 32767 < n))
theorem near_is {f : Nat} {E : Int} (b : Bool) : NearIs f E b (sg b (near f E)) := by
  by_cases h : near f E ≤ 32767
  · exact .inl ⟨h, rfl⟩
  · refine .inr ⟨by omega, ?_⟩
    unfold sg; split <;> omega
theorem near_far {f F q p : Nat} (b : Bool) (h : F * 2 ^ q = f * 2 ^ p) (hF : 32767 < F) : NearIs f (p : Int) b (sg b F) := by
  right
  rw [near_up, ← h]
  have h3 : F * 1 ≤ F * 2 ^ q := Nat.mul_le_mul_left _ (Nat.two_pow_pos q)
  refine ⟨by omega, ?_⟩
  unfold sg; split <;> omega
theorem near_done {f F p : Nat} (b : Bool) (h : F * 2 ^ 0 = f * 2 ^ p) : NearIs f (p : Int) b (sg b F) := by
  have e : F = near f (p : Int) := by rw [near_up, ← h]; simp
  rw [e]; exact near_is b
theorem near_low {f k : Nat} (hf : f < 9007199254740992) (hk : 54 ≤ k) : near f (-(k : Int)) = 0 := by
  rw [near_down (by omega)]
  have h1 : 2 ^ 54 ≤ 2 ^ k := Nat.pow_le_pow_right (by decide) hk
  have h2 : (2 : Nat) ^ 54 = 18014398509481984 := by decide
  unfold rnd
  rw [Nat.mod_eq_of_lt (by omega), Nat.div_eq_of_lt (by omega), if_neg (by omega)]
def NearPost (f : Nat) (E : Int) (b : Bool) (w : World) (e : Ending) (w' : World) : Prop := ∃ n, e = .returned (.int .i64 n) ∧ (-9223372036854775808 ≤ n ∧ n ≤ 9223372036854775807) ∧ NearIs f E b n ∧ Below w.heap.size w w'
set_option maxHeartbeats 1000000 in
theorem nearest_up (f p : Nat) (b : Bool) (w : World) (hf : f < 9007199254740992) (hp : p ≤ 4000) : Calls Tryd.prog 48 #[.int .i64 (sg b f), .int .i64 (p : Int)] w (NearPost f (p : Int) b w) := by
  go_enter Tryd.func48, Tryd.ntmps48
  go_wp2_with fail
  go_loop [0, 1] (fun m e => ∃ (F q : Nat), m = .int .i64 (sg b F) ∧ e = .int .i64 (q : Int) ∧ (F < 9007199254740992) ∧ q ≤ 4000 ∧ Hid (F * 2 ^ q = f * 2 ^ p)) (fun _ e => (intOf e).toNat)
  case atStart => exact ⟨f, p, rfl, rfl, hf, hp, Lib.hid rfl⟩
  case round =>
    clear hf hp
    obtain ⟨F, q, rfl, rfl, hF, hq, HF⟩ := hrel
    have hb := sg_bd b F
    have h2 := sg_two b F
    have hi := sg_in b F
    by_cases hq0 : q = 0
    · subst hq0
      have HD := Lib.hid (near_done b HF.out)
      obtain ⟨m, em⟩ : ∃ m, sg b F = m := ⟨_, rfl⟩
      rw [em] at hb HD ⊢
      have HB := Lib.hid (show -9223372036854775808 ≤ m ∧ m ≤ 9223372036854775807 by omega)
      clear em HF h2 hi hb hF
      go_wp2_with fail
      go_ret
      exact ⟨m, rfl, HB.out, HD.out, bref _⟩
    · have hqI : (0 : Int) < q := by omega
      by_cases hw : F ≤ 32767
      · have HO := Lib.hid (show decide (-32767 ≤ sg b F ∧ sg b F ≤ 32767) = true by simp only [decide_eq_true_eq]; exact hi.2 hw)
        obtain ⟨m, em⟩ : ∃ m, sg b F = m := ⟨_, rfl⟩
        obtain ⟨m2, em2⟩ : ∃ m2, sg b (2 * F) = m2 := ⟨_, rfl⟩
        have e2 : m * 2 = m2 := by rw [← em, ← em2]; exact h2
        have hm2 : -65534 ≤ m2 ∧ m2 ≤ 65534 := by have := sg_bd b (2 * F); omega
        have hX : wrap64 (m * 2) = m2 := by rw [e2]; unfold wrap64; omega
        have HN := Lib.hid (show 2 * F * 2 ^ (q - 1) = f * 2 ^ p by
          rw [← HF.out, show 2 ^ q = 2 * 2 ^ (q - 1) by rw [← Nat.pow_succ']; congr 1; omega, Nat.mul_comm 2 F, Nat.mul_assoc])
        have HM := Lib.hid (show F ≤ 32767 from hw)
        have EM2 := Lib.hid em2
        rw [em] at HO ⊢
        clear em h2 hi hb HF e2 hm2 hw em2
        go_wp2_with fail
        refine (weightOk_is HO.out _).mono ?_; rintro e' w' ⟨rfl, rfl⟩
        go_wp2_with fail
        go_round
        case rel => exact ⟨2 * F, q - 1, by rw [EM2.out, hX], by go_num, by have := HM.out; omega, by omega, HN⟩
        case measure => simp [intOf]; omega
      · have HO := Lib.hid (show decide (-32767 ≤ sg b F ∧ sg b F ≤ 32767) = false by simp only [decide_eq_false_iff_not]; exact fun g => hw (hi.1 g))
        have HD := Lib.hid (near_far b HF.out (by omega))
        obtain ⟨m, em⟩ : ∃ m, sg b F = m := ⟨_, rfl⟩
        rw [em] at hb HO HD ⊢
        have HB := Lib.hid (show -9223372036854775808 ≤ m ∧ m ≤ 9223372036854775807 by omega)
        clear em HF h2 hi hb hF hw
        go_wp2_with fail
        refine (weightOk_is HO.out _).mono ?_; rintro e' w' ⟨rfl, rfl⟩
        go_wp2_with fail
        go_ret
        exact ⟨m, rfl, HB.out, HD.out, bref _⟩
theorem nearest_low (m : Int) (f k : Nat) (b : Bool) (w : World) (hk : 54 ≤ k) (hk1 : k ≤ 4000) (h : Hid (near f (-(k : Int)) = 0)) : Calls Tryd.prog 48 #[.int .i64 m, .int .i64 (-(k : Int))] w (NearPost f (-(k : Int)) b w) := by
  have HD : Hid (NearIs f (-(k : Int)) b 0) := Lib.hid (by have := near_is (f := f) (E := -(k : Int)) b; rw [h.out] at this; simpa [sg] using this)
  clear h
  obtain ⟨E, eE⟩ : ∃ E, -(k : Int) = E := ⟨_, rfl⟩
  rw [eE] at HD ⊢
  have h1 : E < -53 := by omega
  have h2 : -4000 ≤ E := by omega
  clear eE hk hk1
  go_enter Tryd.func48, Tryd.ntmps48
  go_wp2_with fail
  go_loop [0, 1] (fun x e => x = .int .i64 m ∧ e = .int .i64 E) (fun _ _ => 0)
  case atStart => exact ⟨rfl, rfl⟩
  case round =>
    obtain ⟨rfl, rfl⟩ := hrel
    go_wp2_with fail
    go_ret
    exact ⟨0, rfl, by omega, HD.out, bref _⟩
/-- how what is left stands to the half, and what is returned -/
def RoundsI (Q r H T N : Int) : Prop := (H < r ∧ wrap64 (Q + 1) = N) ∨ (r = H ∧ (T == 0) = false ∧ wrap64 (Q + 1) = N) ∨ (r = H ∧ (T == 0) = true ∧ Q = N) ∨ (r < H ∧ Q = N)
set_option maxHeartbeats 1000000 in
theorem nearest_walk (m Q P D r H T N : Int) (k : Nat) (w : World) (hk0 : 0 < k) (hkI : (k : Int) ≤ 53) (eQ : m / 2 ^ k = Q) (eP : wrap64 (2 ^ k) = P) (eD : wrap64 (P - 1) = D) (eR : bits .and .i64 m D = r) (eH : wrap64 (2 ^ (k - 1)) = H) (eT : Q.tmod 2 = T) (hr : Hid (RoundsI Q r H T N)) :
    Calls Tryd.prog 48 #[.int .i64 m, .int .i64 (-(k : Int))] w fun e w' => e = .returned (.int .i64 N) ∧ Below w.heap.size w w' := by
  rcases hr.out with ⟨c1, c2⟩ | ⟨rfl, c1, c2⟩ | ⟨rfl, c1, rfl⟩ | ⟨c1, rfl⟩
  all_goals
    clear hr
    (try (have c3 : ¬ H < r := by omega))
    (try (have c4 : (r == H) = false := by simp; omega))
    go_enter Tryd.func48, Tryd.ntmps48
    go_wp2_with fail
    go_loop [0, 1] (fun x e => x = .int .i64 m ∧ e = .int .i64 (-(k : Int))) (fun _ _ => 0)
    case atStart => exact ⟨rfl, rfl⟩
    case round =>
      obtain ⟨rfl, rfl⟩ := hrel
      go_wp2_with fail
      go_quiet (fail)
      go_wp2_with fail
      go_ret
      first | exact ⟨rfl, bdrewN (bref _) _⟩ | exact ⟨ret_int c2, bdrewN (bref _) _⟩
/-- the nearest integer, at every mantissa and exponent -/
theorem nearest_any (f : Nat) (E : Int) (b : Bool) (w : World) (hf : f < 9007199254740992) (hE : -4000 ≤ E ∧ E ≤ 4000) : Calls Tryd.prog 48 #[.int .i64 (sg b f), .int .i64 E] w (NearPost f E b w) := by
  by_cases h0 : 0 ≤ E
  · obtain ⟨p, rfl⟩ : ∃ p : Nat, E = p := ⟨E.toNat, by omega⟩
    exact nearest_up f p b w hf (by omega)
  · obtain ⟨k, rfl⟩ : ∃ k : Nat, E = -(k : Int) := ⟨(-E).toNat, by omega⟩
    by_cases h1 : 54 ≤ k
    · exact nearest_low _ f k b w h1 (by omega) (Lib.hid (near_low hf h1))
    · have hk : 0 < k := by omega
      have hp := Nat.two_pow_pos k
      have hp1 := Nat.two_pow_pos (k - 1)
      have h53 : 2 ^ k ≤ 2 ^ 53 := Nat.pow_le_pow_right (by decide) (by omega)
      have e53 : (2 : Nat) ^ 53 = 9007199254740992 := by decide
      have h3 : 2 ^ k = 2 * 2 ^ (k - 1) := by rw [← Nat.pow_succ']; congr 1; omega
      have c : ((2 : Int) ^ k) = ((2 ^ k : Nat) : Int) := by simp
      have c1 : ((2 : Int) ^ (k - 1)) = ((2 ^ (k - 1) : Nat) : Int) := by simp
      have hd := near_down (f := f) hk
      have hsb := sg_bd b f
      -- the number rounded down, and what is left
      obtain ⟨Q, r, q1, q2, q3, q4, q5⟩ : ∃ Q r : Int, (sg b f) / 2 ^ k = Q ∧ (sg b f) % 2 ^ k = r ∧ (0 ≤ r ∧ r < 2 ^ k) ∧ (-9007199254740992 ≤ Q ∧ Q ≤ 9007199254740992) ∧
          ((((2 ^ (k - 1) : Nat) : Int) < r ∧ Q + 1 = sg b (rnd f k)) ∨ (r = ((2 ^ (k - 1) : Nat) : Int) ∧ Q % 2 = 1 ∧ Q + 1 = sg b (rnd f k)) ∨ (r = ((2 ^ (k - 1) : Nat) : Int) ∧ Q % 2 = 0 ∧ Q = sg b (rnd f k)) ∨ (r < ((2 ^ (k - 1) : Nat) : Int) ∧ Q = sg b (rnd f k))) := by
        cases b with
        | false =>
          have e : sg false f = (f : Int) := rfl
          have e2 : ∀ n, sg false n = (n : Int) := fun _ => rfl
          rw [e, e2]
          have hd2 := Nat.div_add_mod f (2 ^ k)
          have hm2 := Nat.mod_lt f hp
          have hle : f / 2 ^ k ≤ f := Nat.div_le_self _ _
          refine ⟨((f / 2 ^ k : Nat) : Int), ((f % 2 ^ k : Nat) : Int), by rw [c, Int.natCast_ediv], by rw [c, Int.natCast_emod], by rw [c]; omega, ?_, ?_⟩
          · generalize f / 2 ^ k = q at *
            omega
          unfold rnd
          rw [h3]
          generalize f % (2 * 2 ^ (k - 1)) = r
          generalize f / (2 * 2 ^ (k - 1)) = Q
          generalize 2 ^ (k - 1) = H
          by_cases g1 : H < r
          · left; exact ⟨by omega, by rw [if_pos (.inl (by omega))]; rfl⟩
          · right
            by_cases g2 : r = H
            · by_cases g3 : Q % 2 = 1
              · left; exact ⟨by omega, by omega, by rw [if_pos (.inr ⟨by omega, g3⟩)]; rfl⟩
              · right; left; exact ⟨by omega, by omega, by rw [if_neg (by omega)]⟩
            · right; right; exact ⟨by omega, by rw [if_neg (by omega)]⟩
        | true =>
          have e : sg true f = -(f : Int) := rfl
          have e2 : ∀ n, sg true n = -(n : Int) := fun _ => rfl
          rw [e, e2]
          by_cases hf0 : 0 < f
          · obtain ⟨Q, r, a1, a2, a3, a4, a5⟩ := down_neg (f := f) (k := k) hk hf0
            refine ⟨-(Q : Int), (r : Int), a1, a2, by rw [c]; omega, by omega, ?_⟩
            generalize 2 ^ (k - 1) = H at *
            rcases a5 with ⟨b1, b2⟩ | ⟨b1, b2, b3⟩ | ⟨b1, b2, b3⟩ | ⟨b1, b2⟩
            · left; exact ⟨by omega, by omega⟩
            · right; left; exact ⟨by omega, by omega, by omega⟩
            · right; right; left; exact ⟨by omega, by omega, by omega⟩
            · right; right; right; exact ⟨by omega, by omega⟩
          · obtain rfl : f = 0 := by omega
            refine ⟨0, 0, by simp, by simp, by rw [c]; omega, by omega, ?_⟩
            right; right; right
            exact ⟨by omega, by rw [rnd_zero]; rfl⟩
      have hm := mask_neg (m := sg b f) (k := k) (by omega) (by omega) (by omega)
      rw [q2] at hm
      obtain ⟨T, eT⟩ : ∃ T, Q.tmod 2 = T := ⟨_, rfl⟩
      have hT : T = 0 ↔ Q % 2 = 0 := by
        rw [← eT]
        constructor
        · intro g; exact Int.emod_eq_zero_of_dvd (Int.dvd_of_tmod_eq_zero g)
        · intro g; exact Int.tmod_eq_zero_of_dvd (Int.dvd_of_emod_eq_zero g)
      have hn := near_is (f := f) (E := -(k : Int)) b
      rw [hd] at hn
      have hnb : -9007199254740993 ≤ sg b (rnd f k) ∧ sg b (rnd f k) ≤ 9007199254740993 := by omega
      refine (nearest_walk (sg b f) Q (2 ^ k) (2 ^ k - 1) r (2 ^ (k - 1)) T (sg b (rnd f k)) k w hk (by omega) q1 (by rw [c]; unfold wrap64; omega) (by rw [c]; unfold wrap64; omega) hm (by rw [c1]; unfold wrap64; omega) eT (Lib.hid ?_)).mono ?_
      · unfold RoundsI
        rw [c1]
        have hw : wrap64 (Q + 1) = Q + 1 := by unfold wrap64; omega
        rw [hw]
        rcases q5 with ⟨b1, b2⟩ | ⟨b1, b2, b3⟩ | ⟨b1, b2, b3⟩ | ⟨b1, b2⟩
        · left; exact ⟨b1, b2⟩
        · right; left; refine ⟨b1, ?_, b3⟩
          simp only [beq_eq_false_iff_ne, ne_eq]; omega
        · right; right; left; refine ⟨b1, ?_, b3⟩
          simp only [beq_iff_eq]; omega
        · right; right; right; exact ⟨b1, b2⟩
      · rintro e w' ⟨rfl, hb⟩
        exact ⟨_, rfl, by omega, hn, hb⟩
open Go.ChangeShapes Go.WideShapes Go.ChangeAt Go.RowKit
set_option linter.unusedVariables false
set_option linter.unusedSimpArgs false

/-- what Scale leaves -/
def ScalePostB (x s : Int) (w : World) (e : Ending) (w' : World) : Prop := e = .returned (.tuple #[.int .i64 (scaleN x s), .int .i64 (scaleC x s)]) ∧ Below w.heap.size w w'
theorem scale_any (x s : Int) (w : World) (hx : In64u x) (hT : TabZ w) : Calls Tryd.prog 43 #[.int .u64 x, .int .i64 s] w (ScalePostB x s w) := by
  have HT := Lib.hid hT
  have HX := Lib.hid hx
  by_cases h : s < 0 ∨ 24 < s
  · have HS := Lib.hid (scale_range (x := x) h)
    have HO := Lib.hid (show decide (0 ≤ s ∧ s ≤ 24) = false by simp; omega)
    clear hT hx h
    go_enter Tryd.func43, Tryd.ntmps43
    go_wp2_with fail
    refine (shiftOk_is HO.out _).mono ?_; rintro e' w' ⟨rfl, rfl⟩
    go_wp2_with fail
    go_returns
    exact ⟨ret_ii ⟨HS.out.1.symm, HS.out.2.symm⟩, bref _⟩
  · have h0 : 0 ≤ s ∧ s ≤ 24 := by omega
    have HO := Lib.hid (show decide (0 ≤ s ∧ s ≤ 24) = true by simp; omega)
    clear h
    by_cases hc : 2 < classN x
    · have HS := Lib.hid (scale_class (x := x) h0 hc)
      obtain ⟨p1, p2, p3⟩ := parts_no hc
      have P1 := Lib.hid p1
      have P2 := Lib.hid p2
      have P3 := Lib.hid p3
      clear p1 p2 p3 hc hx hT h0
      go_enter Tryd.func43, Tryd.ntmps43
      go_wp2_with fail
      refine (shiftOk_is HO.out _).mono ?_; rintro e' w' ⟨rfl, rfl⟩
      go_wp2_with fail
      refine (parts_is HX.out P1.out P2.out P3.out _ HT.out).mono ?_; rintro e' w' ⟨rfl, rfl⟩
      go_wp2_with fail
      go_returns
      exact ⟨ret_ii ⟨HS.out.1.symm, HS.out.2.symm⟩, bref _⟩
    · have hcl : classN x ≤ 2 := by omega
      obtain ⟨f, hf, hm, hd, hs⟩ := parts_size hcl
      have hsz := hs s
      obtain ⟨d, ed⟩ : ∃ d, partE x = d := ⟨_, rfl⟩
      rw [ed] at hd hsz
      have P1 := Lib.hid (show partM x = sg (sgB x) f from hm)
      have P2 := Lib.hid ed
      have P3 := Lib.hid (partB_t hcl)
      have HN := Lib.hid (fun w => nearest_any f (d + s) (sgB x) w hf (by omega))
      have HO1 := Lib.hid (fun g => scale_over (x := x) (s := s) h0 hcl g)
      have HO2 := Lib.hid (fun g => scale_ok (x := x) (s := s) h0 hcl g)
      have HZ := Lib.hid hsz
      have hds : wrap64 (d + s) = d + s := by unfold wrap64; omega
      clear hs ed hm hf hsz hcl hc hx hT
      obtain ⟨h0, h1⟩ := h0
      obtain ⟨m, em⟩ : ∃ m, sg (sgB x) f = m := ⟨_, rfl⟩
      rw [em] at P1 HN
      clear em
      go_enter Tryd.func43, Tryd.ntmps43
      go_wp2_with fail
      refine (shiftOk_is HO.out _).mono ?_; rintro e' w' ⟨rfl, rfl⟩
      go_wp2_with fail
      refine (parts_is HX.out P1.out P2.out P3.out _ HT.out).mono ?_; rintro e' w' ⟨rfl, rfl⟩
      go_wp2_with fail
      refine (HN.out _).mono ?_; rintro e' w1 ⟨n, rfl, hnb, hn, hb⟩
      have HB := Lib.hid hb
      have HNB := Lib.hid hnb
      clear hb hnb
      rcases hn with ⟨n1, n2⟩ | ⟨n1, n2⟩
      · have HR := Lib.hid (HO2.out (by rw [HZ.out]; exact n1))
        have HV := Lib.hid (show scaleN x s = n by rw [HR.out.1, n2, HZ.out]; rfl)
        have HW := Lib.hid (show decide (-32767 ≤ n ∧ n ≤ 32767) = true by rw [n2, decide_eq_true_eq]; exact (sg_in _ _).2 n1)
        clear n1 n2
        go_wp2_with fail
        refine (weightOk_is HW.out _).mono ?_; rintro e' w' ⟨rfl, rfl⟩
        go_wp2_with fail
        go_returns
        exact ⟨ret_ii ⟨HV.out.symm, HR.out.2.symm⟩, HB.out⟩
      · have HR := Lib.hid (HO1.out (by rw [HZ.out]; exact n1))
        have HW := Lib.hid (show decide (-32767 ≤ n ∧ n ≤ 32767) = false by simp; omega)
        clear n1 n2
        go_wp2_with fail
        refine (weightOk_is HW.out _).mono ?_; rintro e' w' ⟨rfl, rfl⟩
        go_wp2_with fail
        go_returns
        exact ⟨ret_ii ⟨HR.out.1.symm, HR.out.2.symm⟩, HB.out⟩
theorem scale_is {x s n c : Int} (hx : In64u x) (hn : scaleN x s = n) (hc : scaleC x s = c) (w : World) (hT : TabZ w) : Calls Tryd.prog 43 #[.int .u64 x, .int .i64 s] w fun e w' => e = .returned (.tuple #[.int .i64 n, .int .i64 c]) ∧ Below w.heap.size w w' := by
  have := scale_any x s w hx hT
  unfold ScalePostB at this
  rw [hn, hc] at this; exact this
open Go.ChangeShapes Go.WideShapes Go.ChangeAt Go.RowKit
set_option linter.unusedVariables false
set_option linter.unusedSimpArgs false

/-- the greatest of the first k -/
def bestV (O : List Int) (k : Nat) : Int := O.getD (bestAt O k) 0
theorem bestV_one (O : List Int) : bestV O 1 = O.getD 0 0 := by
  have : bestAt O 1 = 0 := by have := best_lt O 1; omega
  unfold bestV; rw [this]
theorem bestV_step (O : List Int) (k : Nat) : bestV O (k + 1) = max (bestV O k) (O.getD k 0) := by
  unfold bestV
  rw [show bestAt O (k + 1) = if O.getD (bestAt O k) 0 < O.getD k 0 then k else bestAt O k from rfl]
  split <;> rw [Int.max_def] <;> split <;> omega
theorem best_ge (O : List Int) : ∀ k j, j < k → O.getD j 0 ≤ bestV O k
  | 0, j, h => by omega
  | k + 1, j, h => by
    rw [bestV_step]
    by_cases e : j = k
    · subst e; omega
    · have := best_ge O k j (by omega); omega
/-- what stands ahead of the first greatest is less -/
theorem best_first (O : List Int) : ∀ k j, j < bestAt O k → O.getD j 0 < bestV O k
  | 0, j, h => by simp [bestAt] at h
  | k + 1, j, h => by
    rw [bestV_step]
    rw [show bestAt O (k + 1) = if O.getD (bestAt O k) 0 < O.getD k 0 then k else bestAt O k from rfl] at h
    split at h
    · rename_i g
      have := best_ge O k j h
      have g' : bestV O k < O.getD k 0 := g
      omega
    · rename_i g
      have := best_first O k j h
      omega
theorem vmax_any (O : List Int) (a : Option Addr) (cap : Nat) (w : World) (hs : SliceIs w a O) (h1 : 1 ≤ O.length) (h2 : O.length ≤ 9223372036854775807) :
    Calls Tryd.prog 41 #[.slice a O.length cap] w fun e w' => e = .returned (.int .i64 (bestV O O.length)) ∧ w = w' := by
  obtain ⟨b, off, rfl, h0⟩ := hs 0 h1
  have hc : ∀ j, j < O.length → w.cell? ⟨b, off + j, none⟩ = some (.int .i64 (O.getD j 0)) := by
    intro j hj
    obtain ⟨b', o', e, hc⟩ := hs j hj
    cases e; exact hc
  have HC := Lib.hid hc
  have h0' : w.cell? ⟨b, off, none⟩ = some (.int .i64 (O.getD 0 0)) := by simpa using h0
  obtain ⟨v0, ev0⟩ : ∃ v, O.getD 0 0 = v := ⟨_, rfl⟩
  rw [ev0] at h0'
  have HV := Lib.hid (show bestV O 1 = v0 by rw [bestV_one, ev0])
  have hi1 : (1 : Int) ≤ O.length := by omega
  obtain ⟨n, en⟩ : ∃ n, O.length = n := ⟨_, rfl⟩
  rw [en] at h1 h2 hi1 ⊢
  have En := Lib.hid en
  clear hs hc h0 ev0 en
  go_enter Tryd.func41, Tryd.ntmps41
  go_wp2_with fail
  go_loop [3, 4] (fun m i => ∃ (k : Nat) (v : Int), (1 ≤ k ∧ k ≤ n) ∧ i = .int .i64 k ∧ m = .int .i64 v ∧ Hid (bestV O k = v)) (fun _ i => n - (intOf i).toNat)
  case atStart => exact ⟨1, v0, by omega, rfl, rfl, HV⟩
  case round =>
    clear HV h0'
    obtain ⟨k, v, hk, rfl, rfl, HK⟩ := hrel
    by_cases hlt : k < n
    · have hcell := HC.out k (by rw [En.out]; exact hlt)
      obtain ⟨u, eu⟩ : ∃ u, O.getD k 0 = u := ⟨_, rfl⟩
      rw [eu] at hcell
      have HN := Lib.hid (show bestV O (k + 1) = max v u by rw [bestV_step, HK.out, eu])
      have hkI : (k : Int) < n := by omega
      clear eu
      go_wp2_with fail
      go_round
      case rel => exact ⟨k + 1, max v u, by omega, by go_num, rfl, HN⟩
      case measure => simp [intOf]; omega
    · obtain rfl : k = n := by omega
      go_wp2_with fail
      go_ret
      exact ⟨ret_int HK.out.symm, rfl⟩
theorem vindex_any (O : List Int) (a : Option Addr) (cap : Nat) (q : Nat) (v : Int) (w : World) (hs : SliceIs w a O) (hq : q < O.length) (h2 : O.length ≤ 9223372036854775807) (hv : O.getD q 0 = v) (hf : ∀ j, j < q → O.getD j 0 < v) :
    Calls Tryd.prog 40 #[.slice a O.length cap, .int .i64 v] w fun e w' => e = .returned (.int .i64 q) ∧ Below w.heap.size w w' := by
  obtain ⟨b, off, rfl, h0⟩ := hs q hq
  have hc : ∀ j, j < O.length → w.cell? ⟨b, off + j, none⟩ = some (.int .i64 (O.getD j 0)) := by
    intro j hj
    obtain ⟨b', o', e, hc⟩ := hs j hj
    cases e; exact hc
  have HC := Lib.hid hc
  have HF := Lib.hid hf
  have HV := Lib.hid hv
  obtain ⟨n, en⟩ : ∃ n, O.length = n := ⟨_, rfl⟩
  rw [en] at hq h2 ⊢
  have En := Lib.hid en
  clear hs hc h0 en hf hv
  have hB := Lib.hid (bref w)
  go_enter Tryd.func40, Tryd.ntmps40
  go_wp2_with fail
  go_loop [5, 8] (fun _ i => ∃ k : Nat, k ≤ q ∧ i = .int .i64 k) (fun _ i => n - (intOf i).toNat)
  case atStart => exact ⟨0, by omega, rfl⟩
  case round =>
    obtain ⟨k, hk, rfl⟩ := hrel
    have hcell := HC.out k (by rw [En.out]; omega)
    have hkI : (k : Int) < n := by omega
    by_cases hlt : k < q
    · have hlo := HF.out k hlt
      obtain ⟨u, eu⟩ : ∃ u, O.getD k 0 = u := ⟨_, rfl⟩
      rw [eu] at hcell hlo
      have hne : (v == u) = false := by simp; omega
      clear eu hlo
      go_wp2_with fail
      go_round
      case rel => exact ⟨k + 1, by omega, by go_num⟩
      case measure => simp [intOf]; omega
    · obtain rfl : k = q := by omega
      rw [HV.out] at hcell
      go_wp2_with fail
      go_ret
      exact ⟨rfl, hB.out⟩
open Go.ChangeShapes Go.WideShapes Go.ChangeAt Go.RowKit
set_option linter.unusedVariables false
set_option linter.unusedSimpArgs false

theorem quant_out (s : Int) (L : List Int) (a : Option Addr) (cap : Nat) (w : World) (h : s < 0 ∨ 24 < s) : Calls Tryd.prog 36 #[.slice a L.length cap, .int .i64 s] w (QuantPost (quantL s L) (quantC s L) w) := by
  have HC := Lib.hid (quant_range (L := L) h)
  have HO := Lib.hid (show decide (0 ≤ s ∧ s ≤ 24) = false by simp; omega)
  clear h
  go_enter Tryd.func36, Tryd.ntmps36
  go_wp2_with fail
  refine (shiftOk_is HO.out _).mono ?_; rintro e' w' ⟨rfl, rfl⟩
  go_wp2_with fail
  go_returns
  exact quant_nil s L rfl HC.out (by omega) (bref _)
theorem quant_lens (s : Int) (L : List Int) (a : Option Addr) (cap : Nat) (w : World) (h : 0 ≤ s ∧ s ≤ 24) (hl : L.length = 0 ∨ 8 < L.length) : Calls Tryd.prog 36 #[.slice a L.length cap, .int .i64 s] w (QuantPost (quantL s L) (quantC s L) w) := by
  have HC := Lib.hid (quant_len (L := L) h hl)
  have HO := Lib.hid (show decide (0 ≤ s ∧ s ≤ 24) = true by simp; omega)
  obtain ⟨n, en⟩ : ∃ n, L.length = n := ⟨_, rfl⟩
  rw [en] at hl ⊢
  clear en h
  rcases hl with rfl | hl
  all_goals
    (try (have hn0 : ((n : Int) == 0) = false := by simp; omega))
    (try (have hnI : (8 : Int) < n := by omega))
    go_enter Tryd.func36, Tryd.ntmps36
    go_wp2_with fail
    refine (shiftOk_is HO.out _).mono ?_; rintro e' w' ⟨rfl, rfl⟩
    go_wp2_with fail
    go_returns
    exact quant_nil s L rfl HC.out (by omega) (bref _)
theorem qin_below {w wr w1 : World} {s : Int} {L : List Int} {g cap : Nat} {a : Option Addr} {k : Nat} (h : QIn w s L g cap a k wr) (hb : Below wr.heap.size wr w1) : QIn w s L g cap a k w1 :=
  ⟨bthen h.1 hb, h.2.1.below hb, isu_below h.2.2.1 hb, h.2.2.2⟩
set_option maxRecDepth 100000 in
set_option maxHeartbeats 4000000 in
theorem quant_in (s : Int) (L : List Int) (a : Option Addr) (cap : Nat) (w : World) (hs : SliceU w a L) (hf : FitsU L) (h : 0 ≤ s ∧ s ≤ 24) (hl : 1 ≤ L.length ∧ L.length ≤ 8) (hT : TabZ w) : Calls Tryd.prog 36 #[.slice a L.length cap, .int .i64 s] w (QuantPost (quantL s L) (quantC s L) w) := by
  obtain ⟨n, en⟩ : ∃ n, L.length = n := ⟨_, rfl⟩
  have hn : 1 ≤ n ∧ n ≤ 8 := by omega
  obtain ⟨A, hA, hmk⟩ := run_zeros n (by omega)
  have hA' := Lib.hid hA
  have En := Lib.hid en
  have H := Lib.hid h
  have HL := Lib.hid hl
  have HF := Lib.hid hf
  have HA := Lib.hid hs
  have HT := Lib.hid hT
  have HO := Lib.hid (show decide (0 ≤ s ∧ s ≤ 24) = true by simp; omega)
  have H0 : Hid (QIn w s L w.heap.size n a 0 (w.alloc (.cells A 3))) := Lib.hid (by
    refine ⟨balloc (bref _) _, ?_, isu_below hs (balloc (bref _) _), by simp⟩
    have hr := row_new w (List.replicate n 0)
    rw [← hA] at hr
    have := RowIs.pix (base := w.heap.size) hr (Nat.le_refl _) (by simp [maxLen]; omega)
    rw [partL_zero, outs_len, en]
    simpa using this)
  have hnI : (1 : Int) ≤ n ∧ (n : Int) ≤ 8 := by omega
  have hn0 : ((n : Int) == 0) = false := by simp; omega
  have bP := pow_bd h
  obtain ⟨P, eP⟩ : ∃ P : Int, 2 ^ s.toNat = P := ⟨_, rfl⟩
  rw [eP] at bP
  have hP2 : Hid (wrap64 (2 ^ s.toNat) = P) := Lib.hid (by rw [eP]; exact wrap_small bP.1 bP.2)
  have EP := Lib.hid eP
  obtain ⟨h0, h1⟩ := h
  rw [en]
  clear hA en hs hf hl eP hT
  go_enter Tryd.func36, Tryd.ntmps36
  go_wp2_with fail
  refine (shiftOk_is HO.out _).mono ?_; rintro e' w' ⟨rfl, rfl⟩
  go_wp2_with fail
  go_loopw [7, 31] (fun t i wr => ∃ (k : Nat) (T : Int), k ≤ n ∧ i = .int .i64 k ∧ t = .int .i64 (P - T) ∧ (-(32767 * (k : Int)) ≤ T ∧ T ≤ 32767 * k) ∧ Hid (T = ((outs s L).take k).sum) ∧ Hid (QIn w s L w.heap.size n a k wr)) (fun _ i _ => n - (intOf i).toNat)
  case atStart => exact ⟨0, 0, by omega, rfl, by rw [hP2.out]; simp, by omega, Lib.hid (by simp), H0⟩
  case round =>
    clear H0
    obtain ⟨k, T, hk, rfl, rfl, bT, HTS, HI⟩ := hrel
    by_cases hlt : k < n
    · have hkL : k < L.length := by rw [En.out]; exact hlt
      obtain ⟨b, off, rfl, hcell⟩ := HI.out.2.2.1 k hkL
      obtain ⟨x, ex⟩ : ∃ x, L.getD k 0 = x := ⟨_, rfl⟩
      rw [ex] at hcell
      have HX := Lib.hid (show In64u x by rw [← ex]; exact HF.out k hkL)
      have Ex := Lib.hid ex
      obtain ⟨N, eN⟩ : ∃ N, scaleN x s = N := ⟨_, rfl⟩
      obtain ⟨c, ec⟩ : ∃ c, scaleC x s = c := ⟨_, rfl⟩
      have bN := scale_bd x s
      rw [eN] at bN
      have EN := Lib.hid eN
      have EC := Lib.hid ec
      have hkI : (k : Int) < n := by omega
      have HTw : Hid (TabZ wr) := Lib.hid (HT.out.below HI.out.1)
      clear ex eN ec hkL
      by_cases hc : c = 0
      · subst hc
        go_wp2_with fail
        refine (scale_is HX.out EN.out EC.out _ HTw.out).mono ?_; rintro e w1 ⟨rfl, hb⟩
        have HI1 := Lib.hid (qin_below HI.out hb)
        clear HI hb hcell HTw
        have hpl : (partL (outs s L) k).length = n := by rw [partL_len (by rw [outs_len, En.out]; omega), outs_len, En.out]
        have kc := HI1.out.2.1.cell (k := k) (by rw [hpl]; exact hlt)
        have kf := HI1.out.2.1.frozen k
        obtain ⟨V0, eV0⟩ : ∃ V0, (partL (outs s L) k).getD k 0 = V0 := ⟨_, rfl⟩
        rw [eV0] at kc
        have hkI0 : (0 : Int) ≤ k := by omega
        have HI2 := Lib.hid (q_store HI1.out (by rw [En.out]; exact hlt) HA.out (by rw [Ex.out, EN.out]) (by rw [Ex.out, EC.out]))
        have hNk : (outs s L).getD k 0 = N := by rw [outs_at s L (by rw [En.out]; exact hlt), Ex.out, EN.out]
        have HT2 : Hid (T + N = ((outs s L).take (k + 1)).sum) := Lib.hid (by rw [sum_take (by rw [outs_len, En.out]; exact hlt), ← HTS.out, hNk])
        have hTN : P - T - N = P - (T + N) := by omega
        have HTN := Lib.hid hTN
        clear eV0 hpl HI1 hNk HTS hTN
        go_wp2_with fail
        go_roundw
        case rel => exact ⟨k + 1, T + N, by omega, by go_num, by rw [HTN.out], by omega, HT2, HI2⟩
        case measure => simp [intOf]; omega
      · have HE : Hid (quantC s L = c) := Lib.hid (by
          have e1 : errTo s L = c := by rw [HI.out.2.2.2, err_stop (by rw [En.out]; exact hlt) (by rw [Ex.out, EC.out]; exact hc), Ex.out, EC.out]
          rw [quant_err H.out HL.out (by rw [e1]; exact hc), e1])
        have hc0 : (c == 0) = false := by simpa using hc
        have HB := Lib.hid HI.out.1
        clear HI HTS
        go_wp2_with fail
        refine (scale_is HX.out EN.out EC.out _ HTw.out).mono ?_; rintro e w1 ⟨rfl, hb⟩
        have HB2 := Lib.hid (bthen HB.out hb)
        clear hb
        go_wp2_with fail
        go_returns
        exact quant_nil s L rfl HE.out hc HB2.out
    · obtain rfl : k = n := by omega
      have hOl : (outs s L).length = k := by rw [outs_len, En.out]
      have hpE : partL (outs s L) k = outs s L := by rw [← hOl]; exact partL_end _
      have hHE := HI.out
      unfold QIn at hHE
      rw [hpE] at hHE
      have he0 : errTo s L = 0 := by rw [hHE.2.2.2, List.drop_eq_nil_of_le (by rw [En.out]; omega)]; rfl
      have HP := Lib.hid hHE.2.1
      have HB := Lib.hid hHE.1
      obtain ⟨q, eq⟩ : ∃ q, bestAt (outs s L) k = q := ⟨_, rfl⟩
      have hqk : q < k := by have := best_lt (outs s L) k; omega
      have bV := outs_bd s L q
      obtain ⟨V, eV⟩ : ∃ V, (outs s L).getD q 0 = V := ⟨_, rfl⟩
      have hbv : bestV (outs s L) k = V := by unfold bestV; rw [eq, eV]
      have hfst : ∀ j, j < q → (outs s L).getD j 0 < V := by
        intro j hj
        rw [← hbv]; exact best_first _ k j (by rw [eq]; exact hj)
      rw [eV] at bV
      have hS : (outs s L).sum = T := by rw [HTS.out, ← hOl, List.take_length]
      have hC : corr s L = P - T := by unfold corr; rw [EP.out, hS]
      obtain ⟨C, eC⟩ : ∃ C, P - T = C := ⟨_, rfl⟩
      rw [eC] at hC ⊢
      have bC : -262136 ≤ C ∧ C ≤ 17039352 := by omega
      have hM : topN s L = V + C := by unfold topN; rw [hC, En.out, eq, eV]
      have HOl := Lib.hid hOl
      have HC := Lib.hid hC
      have HM := Lib.hid hM
      have HE0 := Lib.hid he0
      have HQ2 := Lib.hid eq
      have HFst := Lib.hid hfst
      have HBv := Lib.hid hbv
      have HV := Lib.hid eV
      have hqI : (q : Int) < k := by omega
      have hqI0 : (0 : Int) ≤ q := by omega
      clear hHE hpE HI HTS hS hC hM eV he0 hOl hlt eq hfst hbv eC bT
      by_cases hD : (k : Int) < C ∨ C < -(k : Int)
      · have HX := Lib.hid (quant_weight H.out HL.out HE0.out (by rw [En.out, HC.out]; exact hD))
        rcases hD with hD | hD
        all_goals
          go_wp2_with fail
          go_returns
          exact quant_nil s L rfl HX.out (by omega) HB.out
      · have hw : -(k : Int) ≤ C ∧ C ≤ (k : Int) := by omega
        obtain ⟨hw1, hw2⟩ := hw
        obtain ⟨M, eM⟩ : ∃ M, V + C = M := ⟨_, rfl⟩
        have bM : -40000 ≤ M ∧ M ≤ 40000 := by omega
        have HM2 : Hid (topN s L = M) := Lib.hid (by rw [HM.out, eM])
        have HW : Hid (-(L.length : Int) ≤ corr s L ∧ corr s L ≤ (L.length : Int)) := Lib.hid (by rw [En.out, HC.out]; exact ⟨hw1, hw2⟩)
        clear hD HM
        have HVM : Hid (Calls Tryd.prog 41 #[.slice (some ⟨w.heap.size, 0, none⟩) k k] wr fun e w' => e = .returned (.int .i64 V) ∧ wr = w') := Lib.hid (by
          have := vmax_any (outs s L) (some ⟨w.heap.size, 0, none⟩) k wr HP.out.isS (by rw [HOl.out]; omega) (by rw [HOl.out]; omega)
          rw [HOl.out, HBv.out] at this; exact this)
        have HVI : Hid (Calls Tryd.prog 40 #[.slice (some ⟨w.heap.size, 0, none⟩) k k, .int .i64 V] wr fun e w' => e = .returned (.int .i64 q) ∧ Below wr.heap.size wr w') := Lib.hid (by
          have := vindex_any (outs s L) (some ⟨w.heap.size, 0, none⟩) k q V wr HP.out.isS (by rw [HOl.out]; exact hqk) (by rw [HOl.out]; omega) HV.out HFst.out
          rw [HOl.out] at this; exact this)
        go_wp2_with fail
        refine HVM.out.mono ?_; rintro e w1 ⟨rfl, rfl⟩
        go_wp2_with fail
        refine HVI.out.mono ?_; rintro e w1 ⟨rfl, hb⟩
        have HP1 := Lib.hid (HP.out.below hb)
        have HB1 := Lib.hid (bthen HB.out hb)
        clear HP HB hb HVM HVI
        have kc := HP1.out.cell (k := q) (by rw [HOl.out]; exact hqk)
        rw [HV.out] at kc
        have kf := HP1.out.frozen q
        have hst := HP1.out.store q M
        have kc2 := hst.1.cell (k := q) (by rw [List.length_set, HOl.out]; exact hqk)
        have e2 : ((outs s L).set q M).getD q 0 = M := by rw [List.getD_eq_getElem?_getD, List.getElem?_set_self (by rw [HOl.out]; exact hqk)]; rfl
        rw [e2] at kc2
        have HS := Lib.hid hst.1
        have HB2 := Lib.hid (show Below w.heap.size w (w1.setCell ⟨w.heap.size, q, none⟩ (.int .i64 M)) from HB1.out.setCell (Nat.le_refl _) _)
        clear hst e2
        go_upto_region 20 with fail
        obtain ⟨wz, ewz⟩ : ∃ wz, w1.setCell ⟨w.heap.size, q, none⟩ (.int .i64 M) = wz := ⟨_, rfl⟩
        rw [ewz] at kc2 HS HB2
        simp only [ewz]
        clear ewz kc kf eM
        by_cases g : -32767 ≤ M ∧ M ≤ 32767
        · have HX := Lib.hid (quant_ok H.out HL.out HE0.out HW.out (by rw [HM2.out]; exact g))
          have HWO := Lib.hid (show decide (-32767 ≤ M ∧ M ≤ 32767) = true by simpa using g)
          go_wp2_with fail
          refine (weightOk_is HWO.out _).mono ?_; rintro e w2 ⟨rfl, rfl⟩
          go_wp2_with fail
          go_returns
          have hlen : ((outs s L).set q M).length = k := by rw [List.length_set, HOl.out]
          rw [HX.out.1, HX.out.2, En.out, HQ2.out, HM2.out]
          refine ⟨some ⟨w.heap.size, 0, none⟩, k, ?_, HS.out.isS, HB2.out, fun b o s e => by cases e; exact Nat.le_refl _⟩
          rw [hlen]; rfl
        · have HX := Lib.hid (quant_over H.out HL.out HE0.out HW.out (by rw [HM2.out]; omega))
          have HWO := Lib.hid (show decide (-32767 ≤ M ∧ M ≤ 32767) = false by rw [decide_eq_false_iff_not]; exact g)
          go_wp2_with fail
          refine (weightOk_is HWO.out _).mono ?_; rintro e w2 ⟨rfl, rfl⟩
          go_wp2_with fail
          go_returns
          exact quant_nil s L rfl HX.out (by omega) HB2.out
/-- Quantize, at every list and shift -/
theorem quant_any (s : Int) (L : List Int) (a : Option Addr) (cap : Nat) (w : World) (hs : SliceU w a L) (hf : FitsU L) (hT : TabZ w) : Calls Tryd.prog 36 #[.slice a L.length cap, .int .i64 s] w (QuantPost (quantL s L) (quantC s L) w) := by
  by_cases h : s < 0 ∨ 24 < s
  · exact quant_out s L a cap w h
  · by_cases hl : L.length = 0 ∨ 8 < L.length
    · exact quant_lens s L a cap w (by omega) hl
    · exact quant_in s L a cap w hs hf (by omega) (by omega) hT
end Go.Proofs.YtjmdpebocchdhaaDoor
