/- The developers' tables as plain numbers: linear taps by another fraction, largest remainders where a part that was raised counts as 0, the parts of an interval add up. No program is named. -/
import Derived.Test.YtjmdpebocchdhaaDoorTBoxPlain
import Derived.Test.YtjmdpebocchdhaaDoorEBits
import Derived.Test.YtjmdpebocchdhaaDoorTSumPlain
namespace Go.Proofs.YtjmdpebocchdhaaDoor
open Go.ChangeShapes Go.WideShapes Go.ChangeAt Go.RowKit
set_option linter.unusedVariables false
set_option linter.unusedSimpArgs false

/-- a linear tap by the number that is greater by one -/
theorem wlin_wraps {n m s : Int} {i : Nat} (hn : 1 ≤ n ∧ n ≤ 128) (hm : 1 ≤ m ∧ m ≤ 128) (hs : 0 ≤ s ∧ s ≤ 14) (hi : (i : Int) < m) : ∃ A0 A1 A X D Q K r SH RD W V1 N1 : Int, wrap64 (2 * (i : Int)) = A0 ∧ wrap64 (A0 + 1) = A1 ∧ wrap64 (A1 * n) = A ∧ wrap64 (A + m) = X ∧ wrap64 (2 * m) = D ∧ X.tdiv D = Q ∧ wrap64 Q = Q ∧ wrap64 (Q - 1) = K ∧ X.tmod D = r ∧ wrap64 r = r ∧ wrap64 (r * 2 ^ s.toNat) = SH ∧ wrap64 (SH + m) = RD ∧ wrap64 (RD.tdiv D) = W ∧ wrap64 (2 ^ s.toNat) = N1 ∧ wrap64 (N1 - W) = V1 ∧ ¬ D = 0 ∧ linTap n m s i = ⟨K, [V1, W]⟩ := by
  obtain ⟨A, P, D, Q, QD, K, KD, r, RR, W, N1, e1, e2, e3, e4, e5, e6, e7, e8, e9, e10, e11, b1, b2, b3, b4, b5, b6, b7, b8, b9, b10, eT⟩ := lin_names hn hm hs hi
  have hr : r < D := by
    have h1 := quo_fix (n := P) (d := D) (by omega)
    rw [e4] at h1
    have hK : K = P / D := by
      rcases e6 with ⟨g1, g2⟩ | ⟨g1, g2⟩
      · rw [g2]; exact (h1.1 (by rw [e5]; exact g1)).symm ▸ rfl
      · rw [g2]; exact (h1.2 (by rw [e5]; exact g1)).symm ▸ rfl
    have h2 := Int.emod_lt_of_pos P (show 0 < D by omega)
    have h3 := Int.emod_add_mul_ediv P D
    rw [Int.mul_comm, ← hK, e7] at h3
    omega
  have hX : A + m = K * D + D + r := by omega
  have hX2 : A + m = r + (K + 1) * D := by rw [Int.add_mul, Int.one_mul]; omega
  have hA0 : 0 ≤ A := by rw [← e1]; exact Int.mul_nonneg (by omega) (by omega)
  have hq : (A + m).tdiv D = K + 1 := by
    rw [Int.tdiv_eq_ediv_of_nonneg (by omega), hX2, Int.add_mul_ediv_right _ _ (by omega), Int.ediv_eq_zero_of_lt (by omega) hr]; omega
  have hm2 : (A + m).tmod D = r := by
    rw [Int.tmod_eq_emod_of_nonneg (by omega), hX2, Int.add_mul_emod_self_right, Int.emod_eq_of_lt (by omega) hr]
  have e9' : (2 : Int) ^ s.toNat = N1 := e9
  have hRR : RR = 2 * (r * N1) := by rw [← e10, Int.mul_assoc]
  have hW : (r * N1 + m).tdiv D = W := by
    rw [Int.tdiv_eq_ediv_of_nonneg (by omega), ← e11, hRR, show 2 * (r * N1) + D = 2 * (r * N1 + m) by omega, Int.mul_ediv_mul_of_pos _ _ (by decide)]
  refine ⟨2 * (i : Int), 2 * (i : Int) + 1, A, A + m, D, K + 1, K, r, r * N1, r * N1 + m, W, N1 - W, N1, w64 (by omega), w64 (by omega), by rw [e1]; exact w64 (by omega), w64 (by omega), by rw [e3]; exact w64 (by omega), hq, w64 (by omega), ?_, hm2, w64 (by omega), ?_, w64 (by omega), ?_, ?_, w64 (by omega), by omega, eT⟩
  · rw [show K + 1 - 1 = K by omega]; exact w64 (by omega)
  · rw [e9']; exact w64 (by omega)
  · rw [hW]; exact w64 (by omega)
  · rw [e9']; exact w64 (by omega)

/-- the first greatest of a list is one alone -/
theorem best_uniq (O : List Int) (n q : Nat) (hq : q < n) (h1 : ∀ j, j < n → O.getD j 0 ≤ O.getD q 0) (h2 : ∀ j, j < q → O.getD j 0 < O.getD q 0) : bestAt O n = q := by
  have hb := best_lt O n
  have a := best_ge O n q hq
  have b := h1 (bestAt O n) (by omega)
  have e : bestV O n = O.getD q 0 := by
    have : bestV O n = O.getD (bestAt O n) 0 := rfl
    omega
  rcases Nat.lt_trichotomy (bestAt O n) q with g | g | g
  · have := h2 _ g
    have : bestV O n = O.getD (bestAt O n) 0 := rfl
    omega
  · exact g
  · have := best_first O n q g; omega
def cleanL (R : List Int) : List Int := R.map fun x => max x 0
theorem clean_at (R : List Int) (k : Nat) : (cleanL R).getD k 0 = max (R.getD k 0) 0 := by
  unfold cleanL
  rw [List.getD_eq_getElem?_getD, List.getD_eq_getElem?_getD, List.getElem?_map]
  cases R[k]? <;> simp
def posN (R : List Int) : Nat := R.countP (fun x => decide (0 < x))
theorem pos_some {R : List Int} (h : 0 < posN R) : ∃ k, k < R.length ∧ 0 < R.getD k 0 := by
  obtain ⟨x, hx, h2⟩ := List.countP_pos_iff.1 h
  obtain ⟨k, hk, rfl⟩ := List.getElem_of_mem hx
  exact ⟨k, hk, by rw [List.getD_eq_getElem?_getD, List.getElem?_eq_getElem hk]; simpa using h2⟩
theorem best_clean {R : List Int} (h : 0 < posN R) : bestAt (cleanL R) R.length = bestAt R R.length ∧ 0 < R.getD (bestAt R R.length) 0 := by
  obtain ⟨k, hk, hp⟩ := pos_some h
  have hb := best_lt R R.length
  have hV : ∀ j, j < R.length → R.getD j 0 ≤ R.getD (bestAt R R.length) 0 := fun j hj => best_ge R R.length j hj
  have h0 : 0 < R.getD (bestAt R R.length) 0 := by have := hV k hk; omega
  refine ⟨best_uniq _ _ _ (by omega) (fun j hj => ?_) (fun j hj => ?_), h0⟩
  · rw [clean_at, clean_at]; have := hV j hj; omega
  · have h3 : R.getD j 0 < R.getD (bestAt R R.length) 0 := best_first R R.length j hj
    rw [clean_at, clean_at]; omega
/-- the same step where a raised part counts as 0 -/
def stepZ (x : List Int × List Int) : List Int × List Int := (x.1.set (bestAt x.2 x.2.length) (x.1.getD (bestAt x.2 x.2.length) 0 + 1), x.2.set (bestAt x.2 x.2.length) 0)
def iterZ : Nat → List Int × List Int → List Int × List Int
  | 0, x => x
  | k + 1, x => iterZ k (stepZ x)
theorem pos_set {R : List Int} {q : Nat} (hq : q < R.length) (hp : 0 < R.getD q 0) : posN (R.set q (-1)) = posN R - 1 := by
  unfold posN
  rw [List.countP_set hq]
  rw [List.getD_eq_getElem?_getD, List.getElem?_eq_getElem hq] at hp
  simp at hp
  simp [hp]
theorem iter_clean : ∀ (k : Nat) (O R : List Int), k ≤ posN R → (iterZ k (O, cleanL R)).1 = (iterD k (O, R)).1
  | 0, O, R, _ => rfl
  | k + 1, O, R, h => by
    obtain ⟨hb, hp⟩ := best_clean (R := R) (by omega)
    have hl : (cleanL R).length = R.length := by simp [cleanL]
    have hq := best_lt R R.length
    have hpos : 0 < R.length := by
      obtain ⟨j, hj, _⟩ := pos_some (R := R) (by omega)
      omega
    have hc : (cleanL R).set (bestAt R R.length) 0 = cleanL (R.set (bestAt R R.length) (-1)) := by
      unfold cleanL; rw [List.map_set]; rfl
    show (iterZ k (stepZ (O, cleanL R))).1 = (iterD k (stepD (O, R))).1
    unfold stepZ stepD
    simp only
    rw [hl, hb, hc]
    exact iter_clean k _ _ (by rw [pos_set (by omega) hp]; omega)
theorem floors_rests {total S : Int} (hS : 0 < S) : ∀ P : List Int, S * (floorsL total S P).sum + (restsL total S P).sum = total * P.sum ∧ (restsL total S P).sum ≤ (posN (restsL total S P) : Int) * (S - 1)
  | [] => by simp [floorsL, restsL, posN]
  | p :: r => by
    obtain ⟨h1, h2⟩ := floors_rests (total := total) hS r
    have e1 : floorsL total S (p :: r) = total * p / S :: floorsL total S r := rfl
    have e2 : restsL total S (p :: r) = total * p % S :: restsL total S r := rfl
    have hd := Int.emod_add_mul_ediv (total * p) S
    have hr0 := Int.emod_nonneg (total * p) (show S ≠ 0 by omega)
    have hr1 := Int.emod_lt_of_pos (total * p) hS
    rw [e1, e2, List.sum_cons, List.sum_cons, List.sum_cons, Int.mul_add, Int.mul_add]
    refine ⟨by omega, ?_⟩
    unfold posN at *
    rw [List.countP_cons]
    by_cases g : 0 < total * p % S
    · rw [if_pos (by simpa using g)]
      rw [Int.natCast_add, Int.add_mul]
      have : ((1 : Nat) : Int) * (S - 1) = S - 1 := by simp
      omega
    · rw [if_neg (by simpa using g)]
      have : total * p % S = 0 := by omega
      rw [this]; simpa using h2
/-- what is missing is at most the number of the parts with a remainder -/
theorem missing_pos {total : Int} {P : List Int} (h : PartsOk P) (ht : 0 ≤ total) : (total - (floorsL total P.sum P).sum).toNat ≤ posN (restsL total P.sum P) := by
  have hs := (parts_sum h P.length (Nat.le_refl _)).1
  rw [List.take_length] at hs
  have hl := h.1
  have hS : 0 < P.sum := by omega
  obtain ⟨h1, h2⟩ := floors_rests (total := total) hS P
  generalize P.sum = S at *
  generalize (floorsL total S P).sum = F at *
  generalize posN (restsL total S P) = c at *
  have h3 : S * (total - F) ≤ (c : Int) * (S - 1) := by rw [Int.mul_sub, Int.mul_comm S total]; omega
  have h4 : (c : Int) * (S - 1) ≤ S * c := by rw [Int.mul_sub, Int.mul_comm S]; omega
  have h5 : total - F ≤ c := Int.le_of_mul_le_mul_left (Int.le_trans h3 h4) hS
  omega
/-- the remainders are not negative -/
theorem rests_clean {total : Int} {P : List Int} (h : PartsOk P) : cleanL (restsL total P.sum P) = restsL total P.sum P := by
  have hs := (parts_sum h P.length (Nat.le_refl _)).1
  rw [List.take_length] at hs
  have hl := h.1
  unfold cleanL restsL
  rw [List.map_map]
  refine List.map_congr_left fun p hp => ?_
  have := Int.emod_nonneg (total * p) (show P.sum ≠ 0 by omega)
  show max (total * p % P.sum) 0 = total * p % P.sum
  omega
theorem divZ {total : Int} {P : List Int} (h : PartsOk P) (ht : 0 ≤ total) : (iterZ (total - (floorsL total P.sum P).sum).toNat (floorsL total P.sum P, restsL total P.sum P)).1 = divL total P := by
  unfold divL
  rw [← iter_clean _ _ _ (missing_pos h ht), rests_clean h]
theorem boxPs_sum {n m : Int} {i : Nat} (hn : 1 ≤ n ∧ n ≤ 128) (hm : 1 ≤ m ∧ m ≤ 128) (hi : (i : Int) < m) : (boxPs n m i).sum = n := by
  obtain ⟨A, B, F, hA, hB, hF, hq, a1, a2, a3, a4, a5⟩ := box_facts hn hm hi
  have hN := boxN_is hm hB hF (by omega) a3.1 (by omega)
  have key : ∀ k : Nat, k ≤ boxN n m i → ((boxPs n m i).take k).sum = max 0 (min B ((F + k) * m) - A) := by
    intro k
    induction k with
    | zero => intro _; simp; omega
    | succ k ih =>
      intro hk
      have h1 := ih (by omega)
      have hlt := (hN.2.2 k).1 (by omega)
      obtain ⟨KM, K1M, x, e1, e2, e3, e4, b1, b2, b3⟩ := boxP_names hn hm hA hB hF a1 a2 a3 a4 a5 hlt (by omega)
      rw [boxPs_take (by omega), List.sum_append, h1, e4]
      simp only [List.sum_cons, List.sum_nil]
      rw [e1] at hlt ⊢
      rw [show (F + ((k + 1 : Nat) : Int)) = F + (k : Int) + 1 by omega, e2]
      by_cases hk0 : k = 0
      · subst hk0
        simp at e1
        omega
      · have hmono : (F + 1) * m ≤ (F + (k : Int)) * m := Int.mul_le_mul_of_nonneg_right (by omega) (by omega)
        rw [e1] at hmono
        omega
  have h2 := key (boxN n m i) (Nat.le_refl _)
  have hnot : ¬ (F + (boxN n m i : Int)) * m < B := fun h => by have := (hN.2.2 (boxN n m i)).2 h; omega
  have e : (boxPs n m i).take (boxN n m i) = boxPs n m i := by rw [← boxPs_len]; exact List.take_length
  rw [e] at h2
  rw [h2]; omega
/-- a list of which the first k are done -/
theorem rep_set {α : Type} (L : List α) (z x : α) (r : Nat) : (L ++ List.replicate (r + 1) z).set L.length x = L ++ [x] ++ List.replicate r z := by
  rw [List.set_append_right _ _ (Nat.le_refl _), Nat.sub_self, List.replicate_succ, List.set_cons_zero, List.append_assoc]; rfl
end Go.Proofs.YtjmdpebocchdhaaDoor
