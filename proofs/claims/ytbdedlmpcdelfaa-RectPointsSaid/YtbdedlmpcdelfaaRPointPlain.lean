/- Which points intersections, hulls and the parts of a difference have: plain integers. -/
import Derived.Test.YtbdedlmpcdelfaaRSubPlain
namespace Go.Proofs.Ytbdedlmpcdelfaa
open Go.ChangeShapes Go.WideShapes Go.ChangeAt Go.RowKit
set_option linter.unusedVariables false
set_option linter.unusedSimpArgs false

/-- how many of some rectangles have a point -/
def cntA (u v : Int) (L : List Rc) : Int := (L.map fun r => if containsB r.x0 r.y0 r.x1 r.y1 u v = true then (1 : Int) else 0).sum
theorem cntA_step (u v : Int) (L : List Rc) (k : Nat) (hk : k < L.length) : cntA u v (L.take (k + 1)) = cntA u v (L.take k) + (if containsB (L.getD k ⟨0, 0, 0, 0⟩).x0 (L.getD k ⟨0, 0, 0, 0⟩).y0 (L.getD k ⟨0, 0, 0, 0⟩).x1 (L.getD k ⟨0, 0, 0, 0⟩).y1 u v = true then (1 : Int) else 0) := by
  rw [List.take_succ_eq_append_getElem hk]
  unfold cntA
  rw [List.map_append, List.sum_append, List.getD_eq_getElem?_getD, List.getElem?_eq_getElem hk]
  simp
theorem cont_in {a b c d u v : Int} (h0 : -1048576 ≤ a ∧ a ≤ 1048576) (h1 : -1048576 ≤ b ∧ b ≤ 1048576) (h2 : -1048576 ≤ c ∧ c ≤ 1048576) (h3 : -1048576 ≤ d ∧ d ≤ 1048576) : containsB a b c d u v = true ↔ (a ≤ u ∧ u < c ∧ b ≤ v ∧ v < d) := by
  rw [containsB_t]
  constructor
  · exact fun h => h.2
  · intro h
    exact ⟨validB_t.2 (by omega), h⟩
theorem cntA_filter (u v : Int) (L : List Rc) : cntA u v (L.filter posB) = cntA u v L := by
  unfold cntA
  induction L with
  | nil => rfl
  | cons r L ih =>
    by_cases h : posB r = true
    · simp [List.filter_cons, h, ih]
    · have hn : ¬ containsB r.x0 r.y0 r.x1 r.y1 u v = true := by
        intro hc
        rw [containsB_t] at hc
        apply h
        simp [posB]
        omega
      simp [List.filter_cons, h, ih, hn]
theorem cont_valid {a b c d u v : Int} (hv : validB a b c d = true) : containsB a b c d u v = true ↔ (a ≤ u ∧ u < c ∧ b ≤ v ∧ v < d) := by
  rw [containsB_t]
  exact ⟨fun h => h.2, fun h => ⟨hv, h⟩⟩
theorem cont_inter {a b c d a' b' c' d' p q r s u v : Int} (hv : validB a b c d = true) (hu : validB a' b' c' d' = true) (hR : interR a b c d a' b' c' d' = ⟨p, q, r, s⟩) :
    containsB p q r s u v = true ↔ (containsB a b c d u v = true ∧ containsB a' b' c' d' u v = true) := by
  rw [cont_valid hv, cont_valid hu]
  have hv2 := validB_t.1 hv
  have hu2 := validB_t.1 hu
  unfold interR at hR
  split at hR
  · rename_i hk
    rw [Rc.mk.injEq] at hR
    have := hk.2.2
    rw [cont_in (by omega) (by omega) (by omega) (by omega)]
    omega
  · rename_i hk
    rw [Rc.mk.injEq] at hR
    have : ¬ (max a a' < min c c' ∧ max b b' < min d d') := fun hh => hk ⟨hv, hu, hh.1, hh.2⟩
    rw [cont_in (by omega) (by omega) (by omega) (by omega)]
    omega
theorem cont_hull {a b c d a' b' c' d' p q r s u v : Int} (hv : validB a b c d = true) (hu : validB a' b' c' d' = true) (hR : hullR a b c d a' b' c' d' = ⟨p, q, r, s⟩) (h : containsB a b c d u v = true ∨ containsB a' b' c' d' u v = true) :
    containsB p q r s u v = true := by
  rw [cont_valid hv, cont_valid hu] at h
  have hv2 := validB_t.1 hv
  have hu2 := validB_t.1 hu
  unfold hullR at hR
  rw [if_pos ⟨hv, hu⟩] at hR
  split at hR
  · rename_i he
    rw [emptyB_t] at he
    rw [Rc.mk.injEq] at hR
    rw [cont_in (by omega) (by omega) (by omega) (by omega)]
    omega
  · split at hR
    · rename_i he
      rw [emptyB_t] at he
      rw [Rc.mk.injEq] at hR
      rw [cont_in (by omega) (by omega) (by omega) (by omega)]
      omega
    · rename_i he hf
      rw [emptyB_t] at he hf
      rw [Rc.mk.injEq] at hR
      obtain ⟨rfl, rfl, rfl, rfl⟩ := hR
      have B1 : -1048576 ≤ a ∧ a < c ∧ c ≤ 1048576 ∧ -1048576 ≤ b ∧ b < d ∧ d ≤ 1048576 := by rcases hv2 with h2 | h2; exact absurd h2 he; exact h2
      have B2 : -1048576 ≤ a' ∧ a' < c' ∧ c' ≤ 1048576 ∧ -1048576 ≤ b' ∧ b' < d' ∧ d' ≤ 1048576 := by rcases hu2 with h2 | h2; exact absurd h2 hf; exact h2
      clear hv2 hu2 he hf hv hu
      rw [cont_in (by clear h; omega) (by clear h; omega) (by clear h; omega) (by clear h; omega)]
      rcases h with h | h <;> omega
/-- each point of the one that is none of the other lies in exactly one part, no other point in any -/
theorem cnt_sub {a b c d a' b' c' d' u v : Int} {L : List Rc} (hv : validB a b c d = true) (hu : validB a' b' c' d' = true) (hL : subL a b c d a' b' c' d' = L) :
    cntA u v L = if containsB a b c d u v = true ∧ ¬ containsB a' b' c' d' u v = true then 1 else 0 := by
  subst hL
  obtain ⟨p, q, r, s, hR⟩ : ∃ p q r s, interR a b c d a' b' c' d' = ⟨p, q, r, s⟩ := ⟨_, _, _, _, rfl⟩
  have hi := cont_inter (u := u) (v := v) hv hu hR
  rcases he : emptyB a b c d with _ | _
  · have hf := full_t hv he
    have hb := full_bd hf
    rcases hx : emptyB p q r s with _ | _
    · rw [sub_p hf hu hR hx]
      have h1 := inter_in hR hx
      have e : List.range 4 = [0, 1, 2, 3] := rfl
      unfold partsN
      rw [cntA_filter, e]
      simp only [cntA, List.map_cons, List.map_nil, List.sum_cons, List.sum_nil, partK]
      rw [cont_in (by omega) (by omega) (by omega) (by omega)] at hi
      have hc := cont_valid (u := u) (v := v) hv
      simp only [cont_in (show -1048576 ≤ a ∧ a ≤ 1048576 by omega) (show -1048576 ≤ b ∧ b ≤ 1048576 by omega) (show -1048576 ≤ c ∧ c ≤ 1048576 by omega) (show -1048576 ≤ q ∧ q ≤ 1048576 by omega),
        cont_in (show -1048576 ≤ a ∧ a ≤ 1048576 by omega) (show -1048576 ≤ q ∧ q ≤ 1048576 by omega) (show -1048576 ≤ p ∧ p ≤ 1048576 by omega) (show -1048576 ≤ s ∧ s ≤ 1048576 by omega),
        cont_in (show -1048576 ≤ r ∧ r ≤ 1048576 by omega) (show -1048576 ≤ q ∧ q ≤ 1048576 by omega) (show -1048576 ≤ c ∧ c ≤ 1048576 by omega) (show -1048576 ≤ s ∧ s ≤ 1048576 by omega),
        cont_in (show -1048576 ≤ a ∧ a ≤ 1048576 by omega) (show -1048576 ≤ s ∧ s ≤ 1048576 by omega) (show -1048576 ≤ c ∧ c ≤ 1048576 by omega) (show -1048576 ≤ d ∧ d ≤ 1048576 by omega)]
      rw [hc] at hi
      simp only [hc]
      by_cases hw : containsB a' b' c' d' u v = true
      · simp only [hw, and_true, not_true_eq_false, and_false, if_false] at hi ⊢
        rw [if_neg (by omega), if_neg (by omega), if_neg (by omega), if_neg (by omega)]; rfl
      · simp only [hw, Bool.false_eq_true, and_false, iff_false, not_false_eq_true, and_true] at hi ⊢
        by_cases g : a ≤ u ∧ u < c ∧ b ≤ v ∧ v < d
        · rw [if_pos g]
          by_cases g1 : v < q
          · rw [if_pos (by omega), if_neg (by omega), if_neg (by omega), if_neg (by omega)]; rfl
          · by_cases g2 : s ≤ v
            · rw [if_neg (by omega), if_neg (by omega), if_neg (by omega), if_pos (by omega)]; rfl
            · by_cases g3 : u < p
              · rw [if_neg (by omega), if_pos (by omega), if_neg (by omega), if_neg (by omega)]; rfl
              · rw [if_neg (by omega), if_neg (by omega), if_pos (by omega), if_neg (by omega)]; rfl
        · rw [if_neg g, if_neg (by omega), if_neg (by omega), if_neg (by omega), if_neg (by omega)]; rfl
    · rw [sub_a hf hu hR hx]
      obtain ⟨rfl, rfl, rfl, rfl⟩ := emptyB_t.1 hx
      rw [cont_in (by omega) (by omega) (by omega) (by omega)] at hi
      simp only [cntA, List.map_cons, List.map_nil, List.sum_cons, List.sum_nil]
      by_cases h1 : containsB a b c d u v = true
      · have h2 : ¬ containsB a' b' c' d' u v = true := fun h2 => by
          have := hi.2 ⟨h1, h2⟩
          omega
        rw [if_pos h1, if_pos ⟨h1, h2⟩]; rfl
      · rw [if_neg h1, if_neg (fun h => h1 h.1)]; rfl
  · rw [sub_u (.inl (full_ev he))]
    obtain ⟨rfl, rfl, rfl, rfl⟩ := emptyB_t.1 he
    rw [if_neg]
    · rfl
    · rintro ⟨h, _⟩
      rw [containsB_t] at h
      omega
end Go.Proofs.Ytbdedlmpcdelfaa
