/- Scale of the reference as a contract: what it returns; it leaves the world as it is. -/
import Derived.Test.YtnkiieiebldpoaaDoorFScalePlain
import Derived.Test.YtnkiieiebldpoaaDoorFParts
namespace Go.Proofs.YtnkiieiebldpoaaDoor
open Go.ChangeShapes Go.WideShapes Go.ChangeAt Go.RowKit
set_option linter.unusedVariables false
set_option linter.unusedSimpArgs false

theorem ret_ii {a b c d : Int} (h : a = b ∧ c = d) : Ending.returned (.tuple #[.int .i64 a, .int .i64 c]) = .returned (.tuple #[.int .i64 b, .int .i64 d]) := by rw [h.1, h.2]
/-- what Scale leaves -/
def ScalePost (x s : Int) (w : World) (e : Ending) (w' : World) : Prop := e = .returned (.tuple #[.int .i64 (scaleN x s), .int .i64 (scaleC x s)]) ∧ w = w'
theorem rscale_out (x s : Int) (w : World) (h : s < 0 ∨ 24 < s) : Calls Tryd.prog 20 #[.int .u64 x, .int .i64 s] w (ScalePost x s w) := by
  have HS := Lib.hid (scale_range (x := x) h)
  go_enter Tryd.func20, Tryd.ntmps20
  rcases h with h | h
  all_goals
    go_wp2_with fail
    go_returns
    exact ⟨ret_ii ⟨HS.out.1.symm, HS.out.2.symm⟩, rfl⟩
theorem rscale_class (x s : Int) (w : World) (hx : In64u x) (h : 0 ≤ s ∧ s ≤ 24) (hc : 2 < classN x) : Calls Tryd.prog 20 #[.int .u64 x, .int .i64 s] w (ScalePost x s w) := by
  have HS := Lib.hid (scale_class (x := x) h hc)
  obtain ⟨p1, p2, p3⟩ := parts_no hc
  have P1 := Lib.hid p1
  have P2 := Lib.hid p2
  have P3 := Lib.hid p3
  have HX := Lib.hid hx
  clear p1 p2 p3 hx hc
  go_enter Tryd.func20, Tryd.ntmps20
  go_wp2_with fail
  refine (rparts_is HX.out P1.out P2.out P3.out _).mono ?_; rintro e w1 ⟨rfl, rfl⟩
  go_wp2_with fail
  go_returns
  exact ⟨ret_ii ⟨HS.out.1.symm, HS.out.2.symm⟩, rfl⟩
/-- the two ends of Scale -/
def ScaleEnd (x s N : Int) : Prop := (32767 < N ∧ scaleN x s = 0 ∧ scaleC x s = 3) ∨ (N ≤ 32767 ∧ scaleN x s = (if sgB x = true then -N else N) ∧ scaleC x s = 0)
theorem scale_end {x s : Int} (h : 0 ≤ s ∧ s ≤ 24) (hc : classN x ≤ 2) {N : Nat} (hN : sizeN x s = N) : ScaleEnd x s N := by
  by_cases g : 32767 < sizeN x s
  · exact .inl ⟨by omega, scale_over h hc g⟩
  · refine .inr ⟨by omega, ?_⟩
    have := scale_ok h hc (by omega)
    rw [hN] at this; exact this
/-- a number halved k times, and what is left: the quotient, what it stands for, the rest and the half -/
theorem rnd_names (f k : Nat) (hk : 0 < k) (hk1 : k ≤ 60) (hf : f < 9007199254740992) : ∃ Q S r H : Nat, (f : Int) / 2 ^ k = Q ∧ wrap64 ((Q : Int) * 2 ^ k) = S ∧ (f : Int) - S = r ∧ wrap64 (2 ^ (k - 1)) = (H : Int) ∧ S ≤ f ∧ Q ≤ f ∧ r ≤ f ∧ H ≤ 576460752303423488 ∧
    ((H < r ∧ rnd f k = Q + 1) ∨ (r = H ∧ Q % 2 = 1 ∧ rnd f k = Q + 1) ∨ (r = H ∧ Q % 2 = 0 ∧ rnd f k = Q) ∨ (r < H ∧ rnd f k = Q)) := by
  have hp := Nat.two_pow_pos k
  have h1 : f / 2 ^ k * 2 ^ k + f % 2 ^ k = f := by rw [Nat.mul_comm]; exact Nat.div_add_mod _ _
  have h2 : f / 2 ^ k ≤ f := Nat.div_le_self _ _
  have h3 : 2 ^ k = 2 * 2 ^ (k - 1) := by rw [← Nat.pow_succ']; congr 1; omega
  have h4 : 2 ^ (k - 1) ≤ 2 ^ 59 := Nat.pow_le_pow_right (by decide) (by omega)
  have h5 : (2 : Nat) ^ 59 = 576460752303423488 := by decide
  have c1 : ((2 : Int) ^ k) = ((2 ^ k : Nat) : Int) := by simp
  have c2 : ((2 : Int) ^ (k - 1)) = ((2 ^ (k - 1) : Nat) : Int) := by simp
  refine ⟨f / 2 ^ k, f / 2 ^ k * 2 ^ k, f % 2 ^ k, 2 ^ (k - 1), ?_, ?_, by omega, ?_, by omega, h2, Nat.mod_le _ _, by omega, ?_⟩
  · rw [c1, ← Int.natCast_ediv]
  · rw [c1, ← Int.natCast_mul]; unfold wrap64; omega
  · rw [c2]; unfold wrap64; omega
  · unfold rnd
    rw [h3]
    generalize f % (2 * 2 ^ (k - 1)) = r
    generalize f / (2 * 2 ^ (k - 1)) = Q
    generalize 2 ^ (k - 1) = H
    by_cases g1 : H < r
    · left; exact ⟨g1, by rw [if_pos (.inl (by omega))]⟩
    · right
      by_cases g2 : r = H
      · by_cases g3 : Q % 2 = 1
        · left; exact ⟨g2, g3, by rw [if_pos (.inr ⟨by omega, g3⟩)]⟩
        · right; left; exact ⟨g2, by omega, by rw [if_neg (by omega)]⟩
      · right; right; exact ⟨by omega, by rw [if_neg (by omega)]⟩
/-- how the rest stands to the half, and what is rounded to -/
def Rounds (Q r H N : Int) : Prop := (H < r ∧ wrap64 (Q + 1) = N) ∨ (r = H ∧ (Q % 2 == 1) = true ∧ wrap64 (Q + 1) = N) ∨ (r = H ∧ (Q % 2 == 1) = false ∧ Q = N) ∨ (r < H ∧ Q = N)
set_option maxRecDepth 100000 in
set_option maxHeartbeats 4000000 in
/-- the walk at an exponent below 0 -/
theorem rscale_walk (x s d m F Q S r H N : Int) (k : Nat) (b : Bool) (w : World) (HX : Hid (In64u x)) (HB : Hid (partB x = true)) (P2 : Hid (partE x = d)) (P1 : Hid (partM x = m)) (h0 : 0 ≤ s) (h1 : s ≤ 24) (hd : -1074 ≤ d ∧ d ≤ 1100)
    (hz : (m == 0) = false) (hzF : (F == 0) = false) (hm : (b = false ∧ m = F ∧ 0 ≤ m) ∨ (b = true ∧ m < 0 ∧ wrap64 (-m) = F)) (hk : d + s = -(k : Int)) (hk0 : 0 < k) (hkI : (k : Int) ≤ 60) (eQ : F / 2 ^ k = Q) (eS : wrap64 (Q * 2 ^ k) = S) (eR : wrap64 (F - S) = r) (eH : wrap64 (2 ^ (k - 1)) = H)
    (hQ : 0 ≤ Q) (hN0 : 0 ≤ N) (hr : Hid (Rounds Q r H N)) (HE : Hid (ScaleEnd x s N)) (Eb : Hid (sgB x = b)) : Calls Tryd.prog 20 #[.int .u64 x, .int .i64 s] w (ScalePost x s w) := by
  by_cases hN : 32767 < N
  · rcases hm with ⟨rfl, rfl, hm⟩ | ⟨rfl, hm, eF⟩
    all_goals
      rcases hr.out with ⟨c1, c2⟩ | ⟨rfl, c1, c2⟩ | ⟨rfl, c1, c2⟩ | ⟨c1, c2⟩
      all_goals
        (try (have c6 : Q = N := c2; subst c6))
        (try (have c3 : ¬ H < r := by omega))
        have c5 : Q.tmod 2 = Q % 2 := Int.tmod_eq_emod_of_nonneg (by first | exact hQ | omega)
        (try (have c4 : (r == H) = false := by simp; omega))
        go_enter Tryd.func20, Tryd.ntmps20
        go_wp2_with fail
        refine (rparts_is HX.out P1.out P2.out HB.out _).mono ?_; rintro e w1 ⟨rfl, rfl⟩
        go_wp2_with fail
        go_returns
        refine ⟨ret_ii ?_, rfl⟩
        rcases HE.out with ⟨_, g1, g2⟩ | ⟨g, _⟩
        · rw [g1, g2]; exact ⟨rfl, rfl⟩
        · exact absurd g (by omega)
  · rcases hm with ⟨rfl, rfl, hm⟩ | ⟨rfl, hm, eF⟩
    all_goals
      rcases hr.out with ⟨c1, c2⟩ | ⟨rfl, c1, c2⟩ | ⟨rfl, c1, c2⟩ | ⟨c1, c2⟩
      all_goals
        (try (have c6 : Q = N := c2; subst c6))
        (try (have c3 : ¬ H < r := by omega))
        have c5 : Q.tmod 2 = Q % 2 := Int.tmod_eq_emod_of_nonneg (by first | exact hQ | omega)
        (try (have c4 : (r == H) = false := by simp; omega))
        go_enter Tryd.func20, Tryd.ntmps20
        go_wp2_with fail
        refine (rparts_is HX.out P1.out P2.out HB.out _).mono ?_; rintro e w1 ⟨rfl, rfl⟩
        go_wp2_with fail
        go_returns
        refine ⟨ret_ii ?_, rfl⟩
        rcases HE.out with ⟨g, _⟩ | ⟨_, g1, g2⟩
        · exact absurd g (by omega)
        · rw [g1, g2, Eb.out]
          first | exact ⟨rfl, rfl⟩ | (simp; done) | (simp; exact c2) | (simp; rw [c2])
set_option maxRecDepth 100000 in
set_option maxHeartbeats 4000000 in
theorem rscale_fin (x s : Int) (w : World) (hx : In64u x) (h : 0 ≤ s ∧ s ≤ 24) (hc : classN x ≤ 2) : Calls Tryd.prog 20 #[.int .u64 x, .int .i64 s] w (ScalePost x s w) := by
  obtain ⟨f, hf, hm, hd, hs⟩ := parts_size hc
  have hsz := hs s
  have hend := fun {N : Nat} hN => scale_end (x := x) (s := s) (N := N) h hc hN
  obtain ⟨d, ed⟩ : ∃ d, partE x = d := ⟨_, rfl⟩
  rw [ed] at hd hsz
  have HB := Lib.hid (partB_t hc)
  have P2 := Lib.hid ed
  have HX := Lib.hid hx
  clear hs ed hx hc
  obtain ⟨h0, h1⟩ := h
  obtain ⟨b, eb⟩ : ∃ b, sgB x = b := ⟨_, rfl⟩
  by_cases hf0 : f = 0
  · subst hf0
    have hm0 : partM x = 0 := by rw [hm]; simp
    have HE := Lib.hid (hend (N := 0) (by rw [hsz]; exact near_zero _))
    have P1 := Lib.hid hm0
    clear hm hend hsz hm0 eb
    go_enter Tryd.func20, Tryd.ntmps20
    go_wp2_with fail
    refine (rparts_is HX.out P1.out P2.out HB.out _).mono ?_; rintro e w1 ⟨rfl, rfl⟩
    go_wp2_with fail
    go_returns
    refine ⟨ret_ii ?_, rfl⟩
    rcases HE.out with ⟨g, _⟩ | ⟨_, g1, g2⟩
    · simp at g
    · rw [g1, g2]; simp
  · have hfz : ((f : Int) == 0) = false := by simp; omega
    have hfz2 : (-(f : Int) == 0) = false := by simp; omega
    have hfp : (0 : Int) < f := by omega
    by_cases e1 : d + s < -60
    · have HE := Lib.hid (hend (N := 0) (by rw [hsz]; exact near_tiny hf e1))
      clear hend hsz
      rw [eb] at hm
      rcases b with _ | _
      all_goals
        have P1 := Lib.hid hm
        clear hm
        go_enter Tryd.func20, Tryd.ntmps20
        go_wp2_with fail
        refine (rparts_is HX.out P1.out P2.out HB.out _).mono ?_; rintro e w1 ⟨rfl, rfl⟩
        go_wp2_with fail
        go_returns
        refine ⟨ret_ii ?_, rfl⟩
        rcases HE.out with ⟨g, _⟩ | ⟨_, g1, g2⟩
        · simp at g
        · rw [g1, g2]; simp
    · by_cases e2 : 15 < d + s
      · obtain ⟨N, eN⟩ : ∃ N, near f (d + s) = N := ⟨_, rfl⟩
        have hN : 32767 < N := by rw [← eN]; exact near_great (by omega) e2
        have HE := Lib.hid (hend (N := N) (by rw [hsz, eN]))
        clear hend hsz eN
        rw [eb] at hm
        rcases b with _ | _
        all_goals
          have P1 := Lib.hid hm
          clear hm
          go_enter Tryd.func20, Tryd.ntmps20
          go_wp2_with fail
          refine (rparts_is HX.out P1.out P2.out HB.out _).mono ?_; rintro e w1 ⟨rfl, rfl⟩
          go_wp2_with fail
          go_returns
          refine ⟨ret_ii ?_, rfl⟩
          rcases HE.out with ⟨_, g1, g2⟩ | ⟨g, _⟩
          · rw [g1, g2]; exact ⟨rfl, rfl⟩
          · exact absurd g (by omega)
      · by_cases e3 : 0 ≤ d + s
        · obtain ⟨p, hp⟩ : ∃ p : Nat, d + s = p := ⟨(d + s).toNat, by omega⟩
          by_cases e4 : 32767 < f
          · obtain ⟨N, eN⟩ : ∃ N, near f (d + s) = N := ⟨_, rfl⟩
            have hN : 32767 < N := by rw [← eN, hp]; exact near_more e4
            have HE := Lib.hid (hend (N := N) (by rw [hsz, eN]))
            clear hend hsz eN
            rw [eb] at hm
            rcases b with _ | _
            all_goals
              have P1 := Lib.hid hm
              clear hm
              go_enter Tryd.func20, Tryd.ntmps20
              go_wp2_with fail
              refine (rparts_is HX.out P1.out P2.out HB.out _).mono ?_; rintro e w1 ⟨rfl, rfl⟩
              go_wp2_with fail
              go_returns
              refine ⟨ret_ii ?_, rfl⟩
              rcases HE.out with ⟨_, g1, g2⟩ | ⟨g, _⟩
              · rw [g1, g2]; exact ⟨rfl, rfl⟩
              · exact absurd g (by omega)
          · obtain ⟨N, eN⟩ : ∃ N : Nat, f * 2 ^ p = N := ⟨_, rfl⟩
            have hNb : N ≤ 2147483647 := by
              have h2 : 2 ^ p ≤ 2 ^ 15 := Nat.pow_le_pow_right (by decide) (by omega)
              have h3 : f * 2 ^ p ≤ 32767 * 2 ^ 15 := Nat.mul_le_mul (by omega) h2
              have h4 : 32767 * 2 ^ 15 = 1073709056 := by decide
              omega
            have hw : wrap64 ((f : Int) * 2 ^ p) = (N : Int) := by
              have c1 : ((f : Int) * 2 ^ p) = ((f * 2 ^ p : Nat) : Int) := by simp
              rw [c1, eN]; unfold wrap64; omega
            have HE := Lib.hid (hend (N := N) (by rw [hsz, hp, near_up, eN]))
            have Eb := Lib.hid eb
            have hpI : (p : Int) ≤ 15 := by omega
            clear hend hsz eN
            rw [eb] at hm
            clear eb
            by_cases hN : 32767 < (N : Int)
            · rcases b with _ | _
              all_goals
                have P1 := Lib.hid hm
                clear hm
                go_enter Tryd.func20, Tryd.ntmps20
                go_wp2_with fail
                refine (rparts_is HX.out P1.out P2.out HB.out _).mono ?_; rintro e w1 ⟨rfl, rfl⟩
                go_wp2_with fail
                go_returns
                refine ⟨ret_ii ?_, rfl⟩
                rcases HE.out with ⟨_, g1, g2⟩ | ⟨g, _⟩
                · rw [g1, g2]; exact ⟨rfl, rfl⟩
                · exact absurd g (by omega)
            · rcases b with _ | _
              all_goals
                have P1 := Lib.hid hm
                clear hm
                go_enter Tryd.func20, Tryd.ntmps20
                go_wp2_with fail
                refine (rparts_is HX.out P1.out P2.out HB.out _).mono ?_; rintro e w1 ⟨rfl, rfl⟩
                go_wp2_with fail
                go_returns
                refine ⟨ret_ii ?_, rfl⟩
                rcases HE.out with ⟨g, _⟩ | ⟨_, g1, g2⟩
                · exact absurd g (by omega)
                · rw [g1, g2, Eb.out]; simp [hw]
        · obtain ⟨k, hk⟩ : ∃ k : Nat, d + s = -(k : Int) := ⟨(-(d + s)).toNat, by omega⟩
          have hk0 : 0 < k := by omega
          have hk1 : k ≤ 60 := by omega
          obtain ⟨Q, S, r, H, eQ, eS, eR, eH, bS, bQ, br, bH, hcase⟩ := rnd_names f k hk0 hk1 hf
          have hsz2 : sizeN x s = rnd f k := by rw [hsz, hk, near_down hk0]
          have HE := Lib.hid (hend (N := rnd f k) hsz2)
          have ES := Lib.hid eS
          have EH := Lib.hid eH
          clear eS eH
          have w1 : Hid (wrap64 ((Q : Int) + 1) = Q + 1) := Lib.hid (by unfold wrap64; omega)
          refine rscale_walk x s d (partM x) f Q S r H (rnd f k) k b w HX HB P2 (Lib.hid rfl) h0 h1 hd ?_ hfz ?_ hk hk0 (by omega) eQ ES.out (by rw [eR]; unfold wrap64; omega) EH.out (by omega) (by omega) (Lib.hid ?_) HE (Lib.hid eb)
          · rw [hm]; split
            · exact hfz2
            · exact hfz
          · rw [hm, eb]
            rcases b with _ | _
            · left; exact ⟨rfl, by simp, by simp⟩
            · right; refine ⟨rfl, by simp; omega, ?_⟩
              simp only [if_true, Int.neg_neg]; unfold wrap64; omega
          · unfold Rounds
            rcases hcase with ⟨c1, c2⟩ | ⟨c1, c2, c3⟩ | ⟨c1, c2, c3⟩ | ⟨c1, c2⟩
            · left; exact ⟨by omega, by rw [w1.out, c2]; rfl⟩
            · right; left; exact ⟨by omega, by simp; omega, by rw [w1.out, c3]; rfl⟩
            · right; right; left; exact ⟨by omega, by simp; omega, by rw [c3]⟩
            · right; right; right; exact ⟨by omega, by rw [c2]⟩
/-- Scale, at every value and shift -/
theorem rscale_any (x s : Int) (w : World) (hx : In64u x) : Calls Tryd.prog 20 #[.int .u64 x, .int .i64 s] w (ScalePost x s w) := by
  by_cases h : s < 0 ∨ 24 < s
  · exact rscale_out x s w h
  · by_cases hc : 2 < classN x
    · exact rscale_class x s w hx (by omega) hc
    · exact rscale_fin x s w hx (by omega) (by omega)
theorem rscale_is {x s n c : Int} (hx : In64u x) (hn : scaleN x s = n) (hc : scaleC x s = c) (w : World) : Calls Tryd.prog 20 #[.int .u64 x, .int .i64 s] w fun e w' => e = .returned (.tuple #[.int .i64 n, .int .i64 c]) ∧ w = w' := by
  have := rscale_any x s w hx
  unfold ScalePost at this
  rw [hn, hc] at this; exact this
end Go.Proofs.YtnkiieiebldpoaaDoor
