/- Quantized weights as plain lists: the scaled values, the first greatest of them, and the correction. No program is named. -/
import Derived.Test.YtnkiieiebldpoaaDoorFScalePlain
namespace Go.Proofs.YtnkiieiebldpoaaDoor
set_option linter.unusedVariables false
set_option linter.unusedSimpArgs false

/-- the first error of Scale -/
def errTo (s : Int) : List Int → Int
  | [] => 0
  | x :: r => if scaleC x s = 0 then errTo s r else scaleC x s
def outs (s : Int) (L : List Int) : List Int := L.map (fun x => scaleN x s)
/-- the place of the first greatest of the first k -/
def bestAt (O : List Int) : Nat → Nat
  | 0 => 0
  | k + 1 => if O.getD (bestAt O k) 0 < O.getD k 0 then k else bestAt O k
def corr (s : Int) (L : List Int) : Int := 2 ^ s.toNat - (outs s L).sum
def topN (s : Int) (L : List Int) : Int := (outs s L).getD (bestAt (outs s L) L.length) 0 + corr s L
def quantC (s : Int) (L : List Int) : Int :=
  if s < 0 ∨ 24 < s then 2 else if L.length = 0 ∨ 8 < L.length then 5 else if errTo s L ≠ 0 then errTo s L else
  if (L.length : Int) < corr s L ∨ corr s L < -(L.length : Int) then 10 else if 32767 < topN s L ∨ topN s L < -32767 then 3 else 0
def quantL (s : Int) (L : List Int) : List Int := if quantC s L = 0 then (outs s L).set (bestAt (outs s L) L.length) (topN s L) else []

theorem outs_len (s : Int) (L : List Int) : (outs s L).length = L.length := by simp [outs]
theorem outs_at (s : Int) (L : List Int) {k : Nat} (hk : k < L.length) : (outs s L).getD k 0 = scaleN (L.getD k 0) s := by
  unfold outs
  simp [List.getD_eq_getElem?_getD, hk]
theorem outs_bd (s : Int) (L : List Int) (k : Nat) : -32767 ≤ (outs s L).getD k 0 ∧ (outs s L).getD k 0 ≤ 32767 := by
  by_cases h : k < L.length
  · rw [outs_at s L h]; exact scale_bd _ _
  · have : (outs s L).getD k 0 = 0 := by rw [List.getD_eq_getElem?_getD, List.getElem?_eq_none (by rw [outs_len]; omega)]; rfl
    omega
theorem best_lt (O : List Int) : ∀ k, bestAt O k ≤ k - 1
  | 0 => by simp [bestAt]
  | k + 1 => by
    unfold bestAt
    split
    · omega
    · have := best_lt O k; omega
theorem sum_take {O : List Int} {k : Nat} (hk : k < O.length) : (O.take (k + 1)).sum = (O.take k).sum + O.getD k 0 := by
  rw [List.take_succ_eq_append_getElem hk, List.sum_append, List.getD_eq_getElem?_getD, List.getElem?_eq_getElem hk]; simp
theorem sum_bd (s : Int) (L : List Int) : ∀ k, k ≤ L.length → -(32767 * (k : Int)) ≤ ((outs s L).take k).sum ∧ ((outs s L).take k).sum ≤ 32767 * k := by
  intro k
  induction k with
  | zero => intro _; simp
  | succ k ih =>
    intro hk
    have h1 := ih (by omega)
    have h2 := outs_bd s L k
    rw [sum_take (by rw [outs_len]; omega)]
    omega
theorem err_step {s : Int} {L : List Int} {k : Nat} (hk : k < L.length) (h0 : scaleC (L.getD k 0) s = 0) : errTo s (L.drop k) = errTo s (L.drop (k + 1)) := by
  rw [List.getD_eq_getElem?_getD, List.getElem?_eq_getElem hk] at h0
  rw [List.drop_eq_getElem_cons hk]
  exact if_pos h0
theorem err_stop {s : Int} {L : List Int} {k : Nat} (hk : k < L.length) (h0 : scaleC (L.getD k 0) s ≠ 0) : errTo s (L.drop k) = scaleC (L.getD k 0) s := by
  have e : L.getD k 0 = L[k] := by rw [List.getD_eq_getElem?_getD, List.getElem?_eq_getElem hk]; rfl
  rw [e] at h0 ⊢
  rw [List.drop_eq_getElem_cons hk]
  exact if_neg h0
theorem pow_bd {s : Int} (h : 0 ≤ s ∧ s ≤ 24) : (1 : Int) ≤ 2 ^ s.toNat ∧ (2 : Int) ^ s.toNat ≤ 16777216 := by
  have h1 : 2 ^ s.toNat ≤ 2 ^ 24 := Nat.pow_le_pow_right (by decide) (by omega)
  have h2 : (2 : Nat) ^ 24 = 16777216 := by decide
  have h3 := Nat.two_pow_pos s.toNat
  have c : ((2 : Int) ^ s.toNat) = ((2 ^ s.toNat : Nat) : Int) := by simp
  rw [c]; omega
/-- what has been written of the list so far -/
def partL (O : List Int) (k : Nat) : List Int := O.take k ++ List.replicate (O.length - k) 0
theorem partL_len {O : List Int} {k : Nat} (hk : k ≤ O.length) : (partL O k).length = O.length := by simp [partL]; omega
theorem partL_zero (O : List Int) : partL O 0 = List.replicate O.length 0 := by simp [partL]
theorem partL_end (O : List Int) : partL O O.length = O := by simp [partL]
theorem partL_set {O : List Int} {k : Nat} (hk : k < O.length) : (partL O k).set k (O.getD k 0) = partL O (k + 1) := by
  have e : List.replicate (O.length - k) (0 : Int) = 0 :: List.replicate (O.length - (k + 1)) 0 := by
    rw [show O.length - k = (O.length - (k + 1)) + 1 by omega]; rfl
  unfold partL
  rw [e, List.set_append_right _ _ (by simp; omega), List.take_succ_eq_append_getElem hk, List.append_assoc]
  congr 1
  rw [show k - (List.take k O).length = 0 by simp; omega, List.getD_eq_getElem?_getD, List.getElem?_eq_getElem hk]
  rfl
theorem partL_at {O : List Int} {j k : Nat} (hj : j < k) (hk : k ≤ O.length) : (partL O k).getD j 0 = O.getD j 0 := by
  unfold partL
  rw [List.getD_eq_getElem?_getD, List.getD_eq_getElem?_getD, List.getElem?_append_left (by simp; omega), List.getElem?_take_of_lt hj]
end Go.Proofs.YtnkiieiebldpoaaDoor
