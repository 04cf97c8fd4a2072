/- The tiles that a rectangle touches, as plain lists: the numbers in ascending order for which a test holds, and when the test holds for a tile. No program is named. -/
import Derived.Test.YtpbapamoihkaoaaGPlain
namespace Go.Proofs.Ytpbapamoihkaoaa
set_option linter.unusedVariables false
set_option linter.unusedSimpArgs false

/-- the numbers below n for which a test holds, in ascending order -/
def upT (T : Nat → Bool) (n : Nat) : List Int := ((List.range n).filter T).map (fun k : Nat => (k : Int))
theorem upT_zero (T : Nat → Bool) : upT T 0 = [] := rfl
theorem upT_t {T : Nat → Bool} {n : Nat} (h : T n = true) : upT T (n + 1) = upT T n ++ [(n : Int)] := by simp [upT, List.range_succ, List.filter_append, h]
theorem upT_f {T : Nat → Bool} {n : Nat} (h : T n = false) : upT T (n + 1) = upT T n := by simp [upT, List.range_succ, List.filter_append, h]
theorem upT_len (T : Nat → Bool) (n : Nat) : (upT T n).length ≤ n := by
  have := List.length_filter_le T (List.range n)
  simp [upT] at this ⊢; exact this
theorem upT_skip {T : Nat → Bool} {m n : Nat} (h : m ≤ n) (hT : ∀ k, m ≤ k → k < n → T k = false) : upT T n = upT T m := by
  induction n with
  | zero => have : m = 0 := by omega
            subst this; rfl
  | succ n ih =>
    by_cases e : m = n + 1
    · subst e; rfl
    · rw [upT_f (hT n (by omega) (by omega))]
      exact ih (by omega) (fun k h1 h2 => hT k h1 (by omega))
/-- the tile is touched -/
def touchB (w h t u a b c d i : Int) : Bool := !emptyB (interR (tileR w h t u i).x0 (tileR w h t u i).y0 (tileR w h t u i).x1 (tileR w h t u i).y1 a b c d).x0 (interR (tileR w h t u i).x0 (tileR w h t u i).y0 (tileR w h t u i).x1 (tileR w h t u i).y1 a b c d).y0 (interR (tileR w h t u i).x0 (tileR w h t u i).y0 (tileR w h t u i).x1 (tileR w h t u i).y1 a b c d).x1 (interR (tileR w h t u i).x0 (tileR w h t u i).y0 (tileR w h t u i).x1 (tileR w h t u i).y1 a b c d).y1
/-- the tiles that are touched -/
def touchL (w h t u a b c d : Int) : List Int := upT (fun k => touchB w h t u a b c d k) (colN w h t u * rowN w h t u).toNat
theorem touchL_len (w h t u a b c d : Int) : (touchL w h t u a b c d).length ≤ 16384 := by
  have h1 := upT_len (fun k => touchB w h t u a b c d k) (colN w h t u * rowN w h t u).toNat
  have h2 := cr_bd w h t u
  unfold touchL; omega
theorem interR_any (a b c d e f g h : Int) : (validB a b c d = true ∧ validB e f g h = true ∧ max a e < min c g ∧ max b f < min d h ∧ interR a b c d e f g h = ⟨max a e, max b f, min c g, min d h⟩) ∨ (¬ (validB a b c d = true ∧ validB e f g h = true ∧ max a e < min c g ∧ max b f < min d h) ∧ interR a b c d e f g h = ⟨0, 0, 0, 0⟩) := by
  unfold interR
  split
  · rename_i hh; exact .inl ⟨hh.1, hh.2.1, hh.2.2.1, hh.2.2.2, rfl⟩
  · rename_i hh; exact .inr ⟨hh, rfl⟩
/-- two rectangles have a point in common -/
theorem inter_full (a b c d e f g h : Int) : (!emptyB (interR a b c d e f g h).x0 (interR a b c d e f g h).y0 (interR a b c d e f g h).x1 (interR a b c d e f g h).y1) = true ↔ (validB a b c d = true ∧ validB e f g h = true ∧ max a e < min c g ∧ max b f < min d h) := by
  rcases interR_any a b c d e f g h with ⟨h1, h2, h3, h4, e1⟩ | ⟨h1, e1⟩
  · rw [e1, Bool.not_eq_true', emptyB_f]
    constructor
    · intro _; exact ⟨h1, h2, h3, h4⟩
    · intro _ hh; dsimp only at hh; omega
  · rw [e1]
    constructor
    · intro hh; simp [emptyB] at hh
    · intro hh; exact absurd hh h1
theorem touch_iff (w h t u a b c d i : Int) : touchB w h t u a b c d i = true ↔ (tileB w h t u i = true ∧ validB a b c d = true ∧ max (i % colN w h t u * t) a < min (min (i % colN w h t u * t + t) w) c ∧ max (i / colN w h t u * u) b < min (min (i / colN w h t u * u + u) h) d) := by
  unfold touchB
  rw [inter_full]
  rcases hB : tileB w h t u i with _ | _
  · rw [tile_no hB]
    constructor
    · rintro ⟨_, h2, h3, h4⟩
      exfalso
      rcases validB_t.1 h2 with hv | hv <;> (dsimp only at h3 h4; omega)
    · rintro ⟨hh, _⟩; cases hh
  · have hb := fineB_t.1 (tile_fine hB)
    obtain ⟨_, x0, x1, y0, y1⟩ := place hB
    rw [tile_is hB]
    dsimp only
    generalize i % colN w h t u * t = x at *
    generalize i / colN w h t u * u = y at *
    constructor
    · rintro ⟨_, h2, h3, h4⟩
      exact ⟨rfl, h2, h3, h4⟩
    · rintro ⟨_, h2, h3, h4⟩
      exact ⟨validB_t.2 (by omega), h2, h3, h4⟩
theorem touch_no {w h t u a b c d : Int} (hn : fineB w h t u = false ∨ emptyB (interR a b c d 0 0 w h).x0 (interR a b c d 0 0 w h).y0 (interR a b c d 0 0 w h).x1 (interR a b c d 0 0 w h).y1 = true) (i : Int) : touchB w h t u a b c d i = false := by
  rcases ht : touchB w h t u a b c d i with _ | _
  · rfl
  · exfalso
    obtain ⟨hB, hv, h1, h2⟩ := (touch_iff ..).1 ht
    have hf := tile_fine hB
    rcases hn with hn | hn
    · rw [hf] at hn; cases hn
    · have hb := fineB_t.1 hf
      obtain ⟨_, x0, x1, y0, y1⟩ := place hB
      have := (inter_full a b c d 0 0 w h).2 ⟨hv, validB_t.2 (by omega), by omega, by omega⟩
      rw [hn] at this; cases this
theorem touchL_no {w h t u a b c d : Int} (hn : fineB w h t u = false ∨ emptyB (interR a b c d 0 0 w h).x0 (interR a b c d 0 0 w h).y0 (interR a b c d 0 0 w h).x1 (interR a b c d 0 0 w h).y1 = true) : touchL w h t u a b c d = [] := by
  unfold touchL
  rw [upT_skip (Nat.zero_le _) (fun k _ _ => touch_no hn k), upT_zero]
theorem one_side {X t a c w p q : Int} (h0 : p = max a 0) (h1 : q = min c w) (h2 : p < q) (h3 : 0 ≤ X) (h4 : 1 ≤ t) : max X a < min (min (X + t) w) c ↔ (p < X + t ∧ X < q) := by
  constructor
  · intro h; omega
  · rintro ⟨g1, g2⟩; omega
/-- where the touched tiles lie: columns from c0 to c1, rows from r0 to r1 -/
theorem touch_at {w h t u a b c d p0 p1 p2 p3 : Int} (hf : fineB w h t u = true) (hR : interR a b c d 0 0 w h = ⟨p0, p1, p2, p3⟩) (hx : emptyB p0 p1 p2 p3 = false) :
    ∃ C R c0 c1 r0 r1 : Nat, colN w h t u = C ∧ rowN w h t u = R ∧ (1 ≤ C ∧ C ≤ 128) ∧ (1 ≤ R ∧ R ≤ 128) ∧ p0 / t = c0 ∧ (p2 - 1) / t = c1 ∧ p1 / u = r0 ∧ (p3 - 1) / u = r1 ∧ c0 ≤ c1 ∧ c1 < C ∧ r0 ≤ r1 ∧ r1 < R ∧ (0 ≤ p0 ∧ p0 < p2 ∧ p2 ≤ 128) ∧ (0 ≤ p1 ∧ p1 < p3 ∧ p3 ≤ 128) ∧ (1 ≤ t ∧ t ≤ 64) ∧ (1 ≤ u ∧ u ≤ 64) ∧
      ∀ k m : Nat, m < C → touchB w h t u a b c d ((k * C + m : Nat) : Int) = decide (c0 ≤ m ∧ m ≤ c1 ∧ r0 ≤ k ∧ k ≤ r1) := by
  have hb := fineB_t.1 hf
  obtain ⟨⟨C0, C1, C2, C3⟩, R0, R1, R2, R3⟩ := counts hf
  rcases interR_any a b c d 0 0 w h with ⟨h1, h2, h3, h4, e1⟩ | ⟨h1, e1⟩
  rotate_left
  · exfalso
    rw [hR, Rc.mk.injEq] at e1
    rw [emptyB_f] at hx
    omega
  rw [hR, Rc.mk.injEq] at e1
  obtain ⟨q0, q1, q2, q3⟩ := e1
  have l0 : 0 ≤ p0 / t := Int.ediv_nonneg (by omega) (by omega)
  have l1 : p0 / t ≤ (p2 - 1) / t := Int.ediv_le_ediv (by omega) (by omega)
  have l2 : (p2 - 1) / t < colN w h t u := Int.ediv_lt_of_lt_mul (by omega) (by omega)
  have m0 : 0 ≤ p1 / u := Int.ediv_nonneg (by omega) (by omega)
  have m1 : p1 / u ≤ (p3 - 1) / u := Int.ediv_le_ediv (by omega) (by omega)
  have m2 : (p3 - 1) / u < rowN w h t u := Int.ediv_lt_of_lt_mul (by omega) (by omega)
  obtain ⟨C, eC⟩ : ∃ C : Nat, colN w h t u = C := ⟨(colN w h t u).toNat, by omega⟩
  obtain ⟨R, eR⟩ : ∃ R : Nat, rowN w h t u = R := ⟨(rowN w h t u).toNat, by omega⟩
  obtain ⟨c0, ec0⟩ : ∃ c0 : Nat, p0 / t = c0 := ⟨(p0 / t).toNat, by omega⟩
  obtain ⟨c1, ec1⟩ : ∃ c1 : Nat, (p2 - 1) / t = c1 := ⟨((p2 - 1) / t).toNat, by omega⟩
  obtain ⟨r0, er0⟩ : ∃ r0 : Nat, p1 / u = r0 := ⟨(p1 / u).toNat, by omega⟩
  obtain ⟨r1, er1⟩ : ∃ r1 : Nat, (p3 - 1) / u = r1 := ⟨((p3 - 1) / u).toNat, by omega⟩
  refine ⟨C, R, c0, c1, r0, r1, eC, eR, by omega, by omega, ec0, ec1, er0, er1, by omega, by omega, by omega, by omega, by omega, by omega, by omega, by omega, fun k m hm => ?_⟩
  have hmod : ((k * C + m : Nat) : Int) % colN w h t u = m := by
    rw [eC]
    have : ((k * C + m) % C : Nat) = m := by rw [Nat.mul_comm, Nat.mul_add_mod]; exact Nat.mod_eq_of_lt hm
    rw [← Int.natCast_emod, this]
  have hdiv : ((k * C + m : Nat) : Int) / colN w h t u = k := by
    rw [eC]
    have : ((k * C + m) / C : Nat) = k := by rw [Nat.mul_comm, Nat.mul_add_div (by omega), Nat.div_eq_of_lt hm]; rfl
    rw [← Int.natCast_ediv, this]
  have a1 : (c0 : Int) ≤ m ↔ p0 < m * t + t := by
    rw [← ec0]
    have e : (m : Int) * t + t = (m + 1) * t := by rw [Int.add_mul]; omega
    rw [e, ← Int.ediv_lt_iff_lt_mul (by omega)]; omega
  have a2 : (m : Int) ≤ c1 ↔ m * t < p2 := by
    rw [← ec1, Int.le_ediv_iff_mul_le (by omega)]; omega
  have b1 : (r0 : Int) ≤ k ↔ p1 < k * u + u := by
    rw [← er0]
    have e : (k : Int) * u + u = (k + 1) * u := by rw [Int.add_mul]; omega
    rw [e, ← Int.ediv_lt_iff_lt_mul (by omega)]; omega
  have b2 : (k : Int) ≤ r1 ↔ k * u < p3 := by
    rw [← er1, Int.le_ediv_iff_mul_le (by omega)]; omega
  have n0 : 0 ≤ (m : Int) * t := Int.mul_nonneg (by omega) (by omega)
  have n1 : 0 ≤ (k : Int) * u := Int.mul_nonneg (by omega) (by omega)
  have s1 := one_side (X := (m : Int) * t) (t := t) q0 q2 (by omega) n0 (by omega)
  have s2 := one_side (X := (k : Int) * u) (t := u) q1 q3 (by omega) n1 (by omega)
  rw [Bool.eq_iff_iff, touch_iff, hmod, hdiv, decide_eq_true_iff, s1, s2, ← a1, ← a2, ← b1, ← b2]
  have hr1 : (r1 : Int) < R := by omega
  clear s1 s2 a1 a2 b1 b2 n0 n1 q0 q1 q2 q3 h2 h3 h4 l0 l1 l2 m0 m1 m2 ec0 ec1 er0 er1 C2 C3 R2 R3 hmod hdiv hR hx
  constructor
  · rintro ⟨g1, g2, g3, g4⟩; omega
  · rintro ⟨g1, g2, g3, g4⟩
    refine ⟨tileB_t.2 ⟨by omega, ?_⟩, h1, by omega, by omega⟩
    rw [eC, eR]
    have : k * C + m < (k + 1) * C := by rw [Nat.add_mul]; omega
    have h5 : (k + 1) * C ≤ R * C := Nat.mul_le_mul_right _ (by omega)
    have h6 : R * C = C * R := Nat.mul_comm _ _
    have h7 : k * C + m < C * R := by omega
    rw [← Int.natCast_mul]; exact Int.ofNat_lt.2 h7
section
variable {T : Nat → Bool} {C R c0 c1 r0 r1 : Nat}
/-- the test holds in a rectangle of tiles -/
def InBox (T : Nat → Bool) (C c0 c1 r0 r1 : Nat) : Prop := ∀ k m : Nat, m < C → T (k * C + m) = decide (c0 ≤ m ∧ m ≤ c1 ∧ r0 ≤ k ∧ k ≤ r1)
theorem box_split (hC : 1 ≤ C) (n : Nat) : n / C * C + n % C = n := by rw [Nat.mul_comm]; exact Nat.div_add_mod n C
theorem box_start (h : InBox T C c0 c1 r0 r1) (hC : 1 ≤ C) : upT T (r0 * C) = [] := by
  rw [upT_skip (Nat.zero_le _) (fun k _ hk => ?_), upT_zero]
  have h1 : k / C < r0 := (Nat.div_lt_iff_lt_mul (by omega)).2 hk
  have := h (k / C) (k % C) (Nat.mod_lt _ (by omega))
  rw [box_split hC] at this
  rw [this]; simp; omega
theorem box_row (h : InBox T C c0 c1 r0 r1) (hc : c1 < C) (h0 : c0 ≤ c1) (k : Nat) : upT T (k * C + c0) = upT T (k * C) := by
  refine upT_skip (by omega) (fun n h1 h2 => ?_)
  have := h k (n - k * C) (by omega)
  rw [show k * C + (n - k * C) = n by omega] at this
  rw [this]; simp; omega
theorem box_one (h : InBox T C c0 c1 r0 r1) (hc : c1 < C) {k m : Nat} (k0 : r0 ≤ k) (k1 : k ≤ r1) (m0 : c0 ≤ m) (m1 : m ≤ c1) : upT T (k * C + (m + 1)) = upT T (k * C + m) ++ [((k * C + m : Nat) : Int)] := by
  rw [← Nat.add_assoc]
  exact upT_t (by rw [h k m (by omega)]; simp; omega)
theorem box_next (h : InBox T C c0 c1 r0 r1) (hc : c1 < C) (k : Nat) : upT T ((k + 1) * C) = upT T (k * C + (c1 + 1)) := by
  have e : (k + 1) * C = k * C + C := by rw [Nat.add_mul]; omega
  refine upT_skip (by omega) (fun n h1 h2 => ?_)
  have := h k (n - k * C) (by omega)
  rw [show k * C + (n - k * C) = n by omega] at this
  rw [this]; simp; omega
theorem box_end (h : InBox T C c0 c1 r0 r1) (hC : 1 ≤ C) (hr : r1 < R) : upT T (R * C) = upT T ((r1 + 1) * C) := by
  refine upT_skip (Nat.mul_le_mul_right _ (by omega)) (fun n h1 h2 => ?_)
  have g1 : r1 + 1 ≤ n / C := (Nat.le_div_iff_mul_le (by omega)).2 h1
  have := h (n / C) (n % C) (Nat.mod_lt _ (by omega))
  rw [box_split hC] at this
  rw [this]; simp; omega
end
end Go.Proofs.Ytpbapamoihkaoaa
