/- The nearest integer of the package ieee as a contract. It leaves the world as it is. -/
import Derived.Test.YtnkiieiebldpoaaDoorECmp
namespace Go.Proofs.YtnkiieiebldpoaaDoor
open Go.ChangeShapes Go.WideShapes Go.ChangeAt Go.RowKit
set_option linter.unusedVariables false
set_option linter.unusedSimpArgs false

/-- a number with a sign -/
def sg (b : Bool) (f : Nat) : Int := if b = true then -(f : Int) else f
theorem sg_bd (b : Bool) (f : Nat) : -(f : Int) ≤ sg b f ∧ sg b f ≤ f := by unfold sg; split <;> omega
theorem sg_two (b : Bool) (f : Nat) : sg b f * 2 = sg b (2 * f) := by unfold sg; split <;> omega
theorem sg_in (b : Bool) (f : Nat) : (-32767 ≤ sg b f ∧ sg b f ≤ 32767) ↔ f ≤ 32767 := by unfold sg; split <;> omega
/-- the nearest integer, or any number that is no weight -/
def NearIs (f : Nat) (E : Int) (b : Bool) (n : Int) : Prop := (near f E ≤ 32767 ∧ n = sg b (near f E)) ∨ (32767 < near f E ∧ (n < -32767 ∨ 32767 < n))
theorem near_is {f : Nat} {E : Int} (b : Bool) : NearIs f E b (sg b (near f E)) := by
  by_cases h : near f E ≤ 32767
  · exact .inl ⟨h, rfl⟩
  · refine .inr ⟨by omega, ?_⟩
    unfold sg; split <;> omega
theorem near_far {f F q p : Nat} (b : Bool) (h : F * 2 ^ q = f * 2 ^ p) (hF : 32767 < F) : NearIs f (p : Int) b (sg b F) := by
  right
  rw [near_up, ← h]
  have h3 : F * 1 ≤ F * 2 ^ q := Nat.mul_le_mul_left _ (Nat.two_pow_pos q)
  refine ⟨by omega, ?_⟩
  unfold sg; split <;> omega
theorem near_done {f F p : Nat} (b : Bool) (h : F * 2 ^ 0 = f * 2 ^ p) : NearIs f (p : Int) b (sg b F) := by
  have e : F = near f (p : Int) := by rw [near_up, ← h]; simp
  rw [e]; exact near_is b
theorem near_low {f k : Nat} (hf : f < 9007199254740992) (hk : 54 ≤ k) : near f (-(k : Int)) = 0 := by
  rw [near_down (by omega)]
  have h1 : 2 ^ 54 ≤ 2 ^ k := Nat.pow_le_pow_right (by decide) hk
  have h2 : (2 : Nat) ^ 54 = 18014398509481984 := by decide
  unfold rnd
  rw [Nat.mod_eq_of_lt (by omega), Nat.div_eq_of_lt (by omega), if_neg (by omega)]
def NearPost (f : Nat) (E : Int) (b : Bool) (w : World) (e : Ending) (w' : World) : Prop := ∃ n, e = .returned (.int .i64 n) ∧ (-9223372036854775808 ≤ n ∧ n ≤ 9223372036854775807) ∧ NearIs f E b n ∧ Below w.heap.size w w'
set_option maxHeartbeats 1000000 in
theorem nearest_up (f p : Nat) (b : Bool) (w : World) (hf : f < 9007199254740992) (hp : p ≤ 4000) : Calls Tryd.prog 34 #[.int .i64 (sg b f), .int .i64 (p : Int)] w (NearPost f (p : Int) b w) := by
  go_enter Tryd.func34, Tryd.ntmps34
  go_wp2_with fail
  go_loop [0, 1] (fun m e => ∃ (F q : Nat), m = .int .i64 (sg b F) ∧ e = .int .i64 (q : Int) ∧ (F < 9007199254740992) ∧ q ≤ 4000 ∧ Hid (F * 2 ^ q = f * 2 ^ p)) (fun _ e => (intOf e).toNat)
  case atStart => exact ⟨f, p, rfl, rfl, hf, hp, Lib.hid rfl⟩
  case round =>
    clear hf hp
    obtain ⟨F, q, rfl, rfl, hF, hq, HF⟩ := hrel
    have hb := sg_bd b F
    have h2 := sg_two b F
    have hi := sg_in b F
    by_cases hq0 : q = 0
    · subst hq0
      have HD := Lib.hid (near_done b HF.out)
      obtain ⟨m, em⟩ : ∃ m, sg b F = m := ⟨_, rfl⟩
      rw [em] at hb HD ⊢
      have HB := Lib.hid (show -9223372036854775808 ≤ m ∧ m ≤ 9223372036854775807 by omega)
      clear em HF h2 hi hb hF
      go_wp2_with fail
      go_ret
      exact ⟨m, rfl, HB.out, HD.out, bref _⟩
    · have hqI : (0 : Int) < q := by omega
      by_cases hw : F ≤ 32767
      · have HO := Lib.hid (show decide (-32767 ≤ sg b F ∧ sg b F ≤ 32767) = true by simp only [decide_eq_true_eq]; exact hi.2 hw)
        obtain ⟨m, em⟩ : ∃ m, sg b F = m := ⟨_, rfl⟩
        obtain ⟨m2, em2⟩ : ∃ m2, sg b (2 * F) = m2 := ⟨_, rfl⟩
        have e2 : m * 2 = m2 := by rw [← em, ← em2]; exact h2
        have hm2 : -65534 ≤ m2 ∧ m2 ≤ 65534 := by have := sg_bd b (2 * F); omega
        have hX : wrap64 (m * 2) = m2 := by rw [e2]; unfold wrap64; omega
        have HN := Lib.hid (show 2 * F * 2 ^ (q - 1) = f * 2 ^ p by
          rw [← HF.out, show 2 ^ q = 2 * 2 ^ (q - 1) by rw [← Nat.pow_succ']; congr 1; omega, Nat.mul_comm 2 F, Nat.mul_assoc])
        have HM := Lib.hid (show F ≤ 32767 from hw)
        have EM2 := Lib.hid em2
        rw [em] at HO ⊢
        clear em h2 hi hb HF e2 hm2 hw em2
        go_wp2_with fail
        refine (weightOk_is HO.out _).mono ?_; rintro e' w' ⟨rfl, rfl⟩
        go_wp2_with fail
        go_round
        case rel => exact ⟨2 * F, q - 1, by rw [EM2.out, hX], by go_num, by have := HM.out; omega, by omega, HN⟩
        case measure => simp [intOf]; omega
      · have HO := Lib.hid (show decide (-32767 ≤ sg b F ∧ sg b F ≤ 32767) = false by simp only [decide_eq_false_iff_not]; exact fun g => hw (hi.1 g))
        have HD := Lib.hid (near_far b HF.out (by omega))
        obtain ⟨m, em⟩ : ∃ m, sg b F = m := ⟨_, rfl⟩
        rw [em] at hb HO HD ⊢
        have HB := Lib.hid (show -9223372036854775808 ≤ m ∧ m ≤ 9223372036854775807 by omega)
        clear em HF h2 hi hb hF hw
        go_wp2_with fail
        refine (weightOk_is HO.out _).mono ?_; rintro e' w' ⟨rfl, rfl⟩
        go_wp2_with fail
        go_ret
        exact ⟨m, rfl, HB.out, HD.out, bref _⟩
theorem nearest_low (m : Int) (f k : Nat) (b : Bool) (w : World) (hk : 54 ≤ k) (hk1 : k ≤ 4000) (h : Hid (near f (-(k : Int)) = 0)) : Calls Tryd.prog 34 #[.int .i64 m, .int .i64 (-(k : Int))] w (NearPost f (-(k : Int)) b w) := by
  have HD : Hid (NearIs f (-(k : Int)) b 0) := Lib.hid (by have := near_is (f := f) (E := -(k : Int)) b; rw [h.out] at this; simpa [sg] using this)
  clear h
  obtain ⟨E, eE⟩ : ∃ E, -(k : Int) = E := ⟨_, rfl⟩
  rw [eE] at HD ⊢
  have h1 : E < -53 := by omega
  have h2 : -4000 ≤ E := by omega
  clear eE hk hk1
  go_enter Tryd.func34, Tryd.ntmps34
  go_wp2_with fail
  go_loop [0, 1] (fun x e => x = .int .i64 m ∧ e = .int .i64 E) (fun _ _ => 0)
  case atStart => exact ⟨rfl, rfl⟩
  case round =>
    obtain ⟨rfl, rfl⟩ := hrel
    go_wp2_with fail
    go_ret
    exact ⟨0, rfl, by omega, HD.out, bref _⟩
/-- how what is left stands to the half, and what is returned -/
def RoundsI (Q r H T N : Int) : Prop := (H < r ∧ wrap64 (Q + 1) = N) ∨ (r = H ∧ (T == 0) = false ∧ wrap64 (Q + 1) = N) ∨ (r = H ∧ (T == 0) = true ∧ Q = N) ∨ (r < H ∧ Q = N)
set_option maxHeartbeats 1000000 in
theorem nearest_walk (m Q P D r H T N : Int) (k : Nat) (w : World) (hk0 : 0 < k) (hkI : (k : Int) ≤ 53) (eQ : m / 2 ^ k = Q) (eP : wrap64 (2 ^ k) = P) (eD : wrap64 (P - 1) = D) (eR : bits .and .i64 m D = r) (eH : wrap64 (2 ^ (k - 1)) = H) (eT : Q.tmod 2 = T) (hr : Hid (RoundsI Q r H T N)) :
    Calls Tryd.prog 34 #[.int .i64 m, .int .i64 (-(k : Int))] w fun e w' => e = .returned (.int .i64 N) ∧ Below w.heap.size w w' := by
  rcases hr.out with ⟨c1, c2⟩ | ⟨rfl, c1, c2⟩ | ⟨rfl, c1, rfl⟩ | ⟨c1, rfl⟩
  all_goals
    clear hr
    (try (have c3 : ¬ H < r := by omega))
    (try (have c4 : (r == H) = false := by simp; omega))
    go_enter Tryd.func34, Tryd.ntmps34
    go_wp2_with fail
    go_loop [0, 1] (fun x e => x = .int .i64 m ∧ e = .int .i64 (-(k : Int))) (fun _ _ => 0)
    case atStart => exact ⟨rfl, rfl⟩
    case round =>
      obtain ⟨rfl, rfl⟩ := hrel
      go_wp2_with fail
      go_quiet (fail)
      go_wp2_with fail
      go_ret
      first | exact ⟨rfl, bdrewN (bref _) _⟩ | exact ⟨ret_int c2, bdrewN (bref _) _⟩
/-- the nearest integer, at every mantissa and exponent -/
theorem nearest_any (f : Nat) (E : Int) (b : Bool) (w : World) (hf : f < 9007199254740992) (hE : -4000 ≤ E ∧ E ≤ 4000) : Calls Tryd.prog 34 #[.int .i64 (sg b f), .int .i64 E] w (NearPost f E b w) := by
  by_cases h0 : 0 ≤ E
  · obtain ⟨p, rfl⟩ : ∃ p : Nat, E = p := ⟨E.toNat, by omega⟩
    exact nearest_up f p b w hf (by omega)
  · obtain ⟨k, rfl⟩ : ∃ k : Nat, E = -(k : Int) := ⟨(-E).toNat, by omega⟩
    by_cases h1 : 54 ≤ k
    · exact nearest_low _ f k b w h1 (by omega) (Lib.hid (near_low hf h1))
    · have hk : 0 < k := by omega
      have hp := Nat.two_pow_pos k
      have hp1 := Nat.two_pow_pos (k - 1)
      have h53 : 2 ^ k ≤ 2 ^ 53 := Nat.pow_le_pow_right (by decide) (by omega)
      have e53 : (2 : Nat) ^ 53 = 9007199254740992 := by decide
      have h3 : 2 ^ k = 2 * 2 ^ (k - 1) := by rw [← Nat.pow_succ']; congr 1; omega
      have c : ((2 : Int) ^ k) = ((2 ^ k : Nat) : Int) := by simp
      have c1 : ((2 : Int) ^ (k - 1)) = ((2 ^ (k - 1) : Nat) : Int) := by simp
      have hd := near_down (f := f) hk
      have hsb := sg_bd b f
      -- the number rounded down, and what is left
      obtain ⟨Q, r, q1, q2, q3, q4, q5⟩ : ∃ Q r : Int, (sg b f) / 2 ^ k = Q ∧ (sg b f) % 2 ^ k = r ∧ (0 ≤ r ∧ r < 2 ^ k) ∧ (-9007199254740992 ≤ Q ∧ Q ≤ 9007199254740992) ∧
          ((((2 ^ (k - 1) : Nat) : Int) < r ∧ Q + 1 = sg b (rnd f k)) ∨ (r = ((2 ^ (k - 1) : Nat) : Int) ∧ Q % 2 = 1 ∧ Q + 1 = sg b (rnd f k)) ∨ (r = ((2 ^ (k - 1) : Nat) : Int) ∧ Q % 2 = 0 ∧ Q = sg b (rnd f k)) ∨ (r < ((2 ^ (k - 1) : Nat) : Int) ∧ Q = sg b (rnd f k))) := by
        cases b with
        | false =>
          have e : sg false f = (f : Int) := rfl
          have e2 : ∀ n, sg false n = (n : Int) := fun _ => rfl
          rw [e, e2]
          have hd2 := Nat.div_add_mod f (2 ^ k)
          have hm2 := Nat.mod_lt f hp
          have hle : f / 2 ^ k ≤ f := Nat.div_le_self _ _
          refine ⟨((f / 2 ^ k : Nat) : Int), ((f % 2 ^ k : Nat) : Int), by rw [c, Int.natCast_ediv], by rw [c, Int.natCast_emod], by rw [c]; omega, ?_, ?_⟩
          · generalize f / 2 ^ k = q at *
            omega
          unfold rnd
          rw [h3]
          generalize f % (2 * 2 ^ (k - 1)) = r
          generalize f / (2 * 2 ^ (k - 1)) = Q
          generalize 2 ^ (k - 1) = H
          by_cases g1 : H < r
          · left; exact ⟨by omega, by rw [if_pos (.inl (by omega))]; rfl⟩
          · right
            by_cases g2 : r = H
            · by_cases g3 : Q % 2 = 1
              · left; exact ⟨by omega, by omega, by rw [if_pos (.inr ⟨by omega, g3⟩)]; rfl⟩
              · right; left; exact ⟨by omega, by omega, by rw [if_neg (by omega)]⟩
            · right; right; exact ⟨by omega, by rw [if_neg (by omega)]⟩
        | true =>
          have e : sg true f = -(f : Int) := rfl
          have e2 : ∀ n, sg true n = -(n : Int) := fun _ => rfl
          rw [e, e2]
          by_cases hf0 : 0 < f
          · obtain ⟨Q, r, a1, a2, a3, a4, a5⟩ := down_neg (f := f) (k := k) hk hf0
            refine ⟨-(Q : Int), (r : Int), a1, a2, by rw [c]; omega, by omega, ?_⟩
            generalize 2 ^ (k - 1) = H at *
            rcases a5 with ⟨b1, b2⟩ | ⟨b1, b2, b3⟩ | ⟨b1, b2, b3⟩ | ⟨b1, b2⟩
            · left; exact ⟨by omega, by omega⟩
            · right; left; exact ⟨by omega, by omega, by omega⟩
            · right; right; left; exact ⟨by omega, by omega, by omega⟩
            · right; right; right; exact ⟨by omega, by omega⟩
          · obtain rfl : f = 0 := by omega
            refine ⟨0, 0, by simp, by simp, by rw [c]; omega, by omega, ?_⟩
            right; right; right
            exact ⟨by omega, by rw [rnd_zero]; rfl⟩
      have hm := mask_neg (m := sg b f) (k := k) (by omega) (by omega) (by omega)
      rw [q2] at hm
      obtain ⟨T, eT⟩ : ∃ T, Q.tmod 2 = T := ⟨_, rfl⟩
      have hT : T = 0 ↔ Q % 2 = 0 := by
        rw [← eT]
        constructor
        · intro g; exact Int.emod_eq_zero_of_dvd (Int.dvd_of_tmod_eq_zero g)
        · intro g; exact Int.tmod_eq_zero_of_dvd (Int.dvd_of_emod_eq_zero g)
      have hn := near_is (f := f) (E := -(k : Int)) b
      rw [hd] at hn
      have hnb : -9007199254740993 ≤ sg b (rnd f k) ∧ sg b (rnd f k) ≤ 9007199254740993 := by omega
      refine (nearest_walk (sg b f) Q (2 ^ k) (2 ^ k - 1) r (2 ^ (k - 1)) T (sg b (rnd f k)) k w hk (by omega) q1 (by rw [c]; unfold wrap64; omega) (by rw [c]; unfold wrap64; omega) hm (by rw [c1]; unfold wrap64; omega) eT (Lib.hid ?_)).mono ?_
      · unfold RoundsI
        rw [c1]
        have hw : wrap64 (Q + 1) = Q + 1 := by unfold wrap64; omega
        rw [hw]
        rcases q5 with ⟨b1, b2⟩ | ⟨b1, b2, b3⟩ | ⟨b1, b2, b3⟩ | ⟨b1, b2⟩
        · left; exact ⟨b1, b2⟩
        · right; left; refine ⟨b1, ?_, b3⟩
          simp only [beq_eq_false_iff_ne, ne_eq]; omega
        · right; right; left; refine ⟨b1, ?_, b3⟩
          simp only [beq_iff_eq]; omega
        · right; right; right; exact ⟨b1, b2⟩
      · rintro e w' ⟨rfl, hb⟩
        exact ⟨_, rfl, by omega, hn, hb⟩
end Go.Proofs.YtnkiieiebldpoaaDoor
