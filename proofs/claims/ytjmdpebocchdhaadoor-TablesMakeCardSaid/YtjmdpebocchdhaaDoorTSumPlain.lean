/- What the weights of linear and box taps add up to, that the taps are valid, and the tables between equal lengths. No program is named. -/
import Derived.Test.YtjmdpebocchdhaaDoorTBoxPlain
namespace Go.Proofs.YtjmdpebocchdhaaDoor
set_option linter.unusedVariables false
set_option linter.unusedSimpArgs false

theorem errV_zero : ∀ {T : List Tp}, (∀ t ∈ T, tapE t = 0) → errV T = 0
  | [], _ => rfl
  | t :: r, h => by
    unfold errV
    rw [if_pos (h t (by simp))]
    exact errV_zero fun u hu => h u (by simp [hu])
theorem tapE_zero {t : Tp} (h1 : 1 ≤ t.L.length ∧ t.L.length ≤ 8) (h2 : ∀ x ∈ t.L, -32767 ≤ x ∧ x ≤ 32767) (h3 : -128 ≤ t.f ∧ t.f ≤ 256) : tapE t = 0 := by
  unfold tapE
  have a : t.L.all weightB = true := by rw [List.all_eq_true]; intro x hx; exact weightB_t.2 (h2 x hx)
  rw [if_neg (by omega), if_neg (by rw [a]; simp), if_neg (by rw [firstT_t.2 h3]; simp)]
/-- linear taps -/
theorem lin_tap {n m s : Int} {i : Nat} (hn : 1 ≤ n ∧ n ≤ 128) (hm : 1 ≤ m ∧ m ≤ 128) (hs : 0 ≤ s ∧ s ≤ 14) (hi : (i : Int) < m) : (linTap n m s i).L.sum = one s ∧ (linTap n m s i).L.length = 2 ∧ tapE (linTap n m s i) = 0 := by
  obtain ⟨A, P, D, Q, QD, K, KD, r, RR, W, N1, _, _, _, _, _, _, _, _, eN, _, _, _, _, _, _, _, _, _, hW, hN, hK, e⟩ := lin_names hn hm hs hi
  rw [e, eN]
  refine ⟨by simp, rfl, tapE_zero (by simp) (fun x hx => ?_) hK⟩
  simp at hx
  omega
theorem lin_valid {n m s : Int} (hn : 1 ≤ n ∧ n ≤ 128) (hm : 1 ≤ m ∧ m ≤ 128) (hs : 0 ≤ s ∧ s ≤ 14) : validC (linL n m s m.toNat) n = 0 := by
  unfold validC
  rw [sideT_t.2 hn, linL_len, sideT_t.2 (show 1 ≤ ((m.toNat : Nat) : Int) ∧ ((m.toNat : Nat) : Int) ≤ 128 by omega), if_neg (by simp)]
  refine errV_zero fun t ht => ?_
  unfold linL at ht
  obtain ⟨i, hi, rfl⟩ := List.mem_map.1 ht
  rw [List.mem_range] at hi
  exact (lin_tap hn hm hs (by omega)).2.2
/-- a number of a list grows by one -/
theorem set_sum : ∀ {L : List Int} {k : Nat}, k < L.length → (L.set k (L.getD k 0 + 1)).sum = L.sum + 1
  | [], k, h => by simp at h
  | x :: r, 0, _ => by simp; omega
  | x :: r, k + 1, h => by
    have := set_sum (L := r) (k := k) (by simpa using h)
    simp only [List.set_cons_succ, List.sum_cons, List.getD_cons_succ]
    rw [this]; omega
theorem step_mem {L : List Int} {k : Nat} (h : ∀ x ∈ L, 0 ≤ x) : ∀ x ∈ L.set k (L.getD k 0 + 1), 0 ≤ x := by
  intro x hx
  rcases List.mem_or_eq_of_mem_set hx with h1 | h1
  · exact h x h1
  · have : 0 ≤ L.getD k 0 := by
      rw [List.getD_eq_getElem?_getD]
      cases e : L[k]? with
      | none => simp
      | some y => exact h y (List.mem_of_getElem? e)
    omega
theorem iterD_facts : ∀ (k : Nat) (x : List Int × List Int), x.1.length = x.2.length → 0 < x.2.length → (∀ y ∈ x.1, 0 ≤ y) → (iterD k x).1.sum = x.1.sum + k ∧ (iterD k x).1.length = x.1.length ∧ ∀ y ∈ (iterD k x).1, 0 ≤ y
  | 0, x, _, _, h => by unfold iterD; simp; exact h
  | k + 1, x, h1, h2, h3 => by
    have hb := best_lt x.2 x.2.length
    have hs : (stepD x).1.sum = x.1.sum + 1 := set_sum (by omega)
    have hl : (stepD x).1.length = x.1.length := by simp [stepD]
    have hr : (stepD x).2.length = x.2.length := by simp [stepD]
    have hi := iterD_facts k (stepD x) (by omega) (by omega) (step_mem h3)
    unfold iterD
    refine ⟨by rw [hi.1, hs]; omega, by rw [hi.2.1, hl], hi.2.2⟩
theorem floors_le {total S : Int} (hS : 0 < S) : ∀ P : List Int, S * (floorsL total S P).sum ≤ total * P.sum
  | [] => by simp [floorsL]
  | p :: r => by
    have h := floors_le (total := total) hS r
    have e : floorsL total S (p :: r) = total * p / S :: floorsL total S r := rfl
    rw [e, List.sum_cons, List.sum_cons, Int.mul_add, Int.mul_add]
    have := Int.mul_ediv_self_le (x := total * p) (k := S) (by omega)
    omega
theorem mem_le_sum : ∀ {L : List Int}, (∀ x ∈ L, 0 ≤ x) → 0 ≤ L.sum ∧ ∀ x ∈ L, x ≤ L.sum
  | [], _ => by simp
  | y :: r, h => by
    have h1 := mem_le_sum (L := r) fun x hx => h x (by simp [hx])
    have h2 := h y (by simp)
    rw [List.sum_cons]
    refine ⟨by omega, fun x hx => ?_⟩
    rcases List.mem_cons.1 hx with rfl | hx
    · omega
    · have := h1.2 x hx; omega
/-- the parts of a total add up to it -/
theorem div_facts {total : Int} {P : List Int} (h : PartsOk P) (ht : 0 ≤ total) : (divL total P).sum = total ∧ (divL total P).length = P.length ∧ ∀ x ∈ divL total P, 0 ≤ x ∧ x ≤ total := by
  have hs := (parts_sum h P.length (Nat.le_refl _)).1
  rw [List.take_length] at hs
  have hl := h.1
  have hS : 0 < P.sum := by omega
  have hp : ∀ p ∈ P, 0 ≤ p := by
    intro p hp
    obtain ⟨k, hk, rfl⟩ := List.getElem_of_mem hp
    have := (h.2 k hk).1
    rw [List.getD_eq_getElem?_getD, List.getElem?_eq_getElem hk] at this
    simp at this; omega
  have hf : (floorsL total P.sum P).sum ≤ total := by
    have h1 := floors_le (total := total) hS P
    rw [Int.mul_comm total] at h1
    exact Int.le_of_mul_le_mul_left h1 hS
  have hz : ∀ y ∈ floorsL total P.sum P, 0 ≤ y := by
    intro y hy
    unfold floorsL at hy
    obtain ⟨p, h1, rfl⟩ := List.mem_map.1 hy
    exact Int.ediv_nonneg (Int.mul_nonneg ht (hp p h1)) (by omega)
  have hF := floors_len total P.sum P
  have hi := iterD_facts (total - (floorsL total P.sum P).sum).toNat (floorsL total P.sum P, restsL total P.sum P) (by simp only; omega) (by simp only; omega) hz
  have e : (divL total P).sum = total := by unfold divL; rw [hi.1]; show (floorsL total P.sum P).sum + _ = total; omega
  refine ⟨e, by unfold divL; rw [hi.2.1]; exact hF.1, fun x hx => ?_⟩
  have hm := mem_le_sum (L := divL total P) hi.2.2
  rw [e] at hm
  exact ⟨hi.2.2 x hx, hm.2 x hx⟩
/-- where a box tap lies -/
theorem box_in {n m : Int} {i : Nat} (hn : 1 ≤ n ∧ n ≤ 128) (hm : 1 ≤ m ∧ m ≤ 128) (hi : (i : Int) < m) : 0 ≤ boxF n m i ∧ boxF n m i + boxN n m i ≤ n := by
  obtain ⟨A, B, F, hA, hB, hF, hq, a1, a2, a3, a4, a5⟩ := box_facts hn hm hi
  have hN := boxN_is hm hB hF (by omega) a3.1 (by omega)
  rw [hF]
  refine ⟨a3.1, ?_⟩
  have h1 := (hN.2.2 (boxN n m i - 1)).1 (by omega)
  have hBn : B ≤ n * m := by
    rw [← hB, Int.mul_comm n m]
    exact Int.mul_le_mul_of_nonneg_right (by omega) (by omega)
  have h2 := Int.lt_of_mul_lt_mul_right (Int.lt_of_lt_of_le h1 hBn) (by omega)
  omega
theorem box_up {n m : Int} {i : Nat} (hn : 1 ≤ n) (hm : 1 ≤ m) : boxF n m i ≤ boxF n m ((i : Int) + 1) := by
  unfold boxF
  exact Int.ediv_le_ediv (by omega) (by rw [Int.add_mul, Int.one_mul]; omega)
theorem box_tap {n m s : Int} {i : Nat} (hn : 1 ≤ n ∧ n ≤ 128) (hm : 1 ≤ m ∧ m ≤ 128) (hs : 0 ≤ s ∧ s ≤ 14) (hi : (i : Int) < m) (h8 : boxN n m i ≤ 8) : (boxTap n m s i).L.sum = one s ∧ (boxTap n m s i).L.length = boxN n m i ∧ tapE (boxTap n m s i) = 0 := by
  have hP := boxPs_ok hn hm hi h8
  have h1 := one_bd hs
  have hd := div_facts hP (show 0 ≤ one s by omega)
  have hl : (divL (one s) (boxPs n m i)).length = boxN n m i := by rw [hd.2.1, boxPs_len]
  have hb := box_in hn hm hi
  have hlen := hP.1
  rw [boxPs_len] at hlen
  refine ⟨hd.1, hl, tapE_zero ?_ (fun x hx => ?_) ?_⟩
  · show 1 ≤ (divL (one s) (boxPs n m i)).length ∧ (divL (one s) (boxPs n m i)).length ≤ 8
    omega
  · have := hd.2.2 x hx; omega
  · show -128 ≤ boxF n m i ∧ boxF n m i ≤ 256
    omega
theorem boxOk_at {n m : Int} {k : Nat} (h : boxOk n m k = true) {i : Nat} (hi : i < k) : boxN n m i ≤ 8 := by
  unfold boxOk at h
  rw [List.all_eq_true] at h
  exact of_decide_eq_true (h i (List.mem_range.2 hi))
theorem box_valid {n m s : Int} (hn : 1 ≤ n ∧ n ≤ 128) (hm : 1 ≤ m ∧ m ≤ 128) (hs : 0 ≤ s ∧ s ≤ 14) (hk : boxOk n m m.toNat = true) : validC (boxL n m s m.toNat) n = 0 := by
  unfold validC
  rw [sideT_t.2 hn, boxL_len, sideT_t.2 (show 1 ≤ ((m.toNat : Nat) : Int) ∧ ((m.toNat : Nat) : Int) ≤ 128 by omega), if_neg (by simp)]
  refine errV_zero fun t ht => ?_
  unfold boxL at ht
  obtain ⟨i, hi, rfl⟩ := List.mem_map.1 ht
  rw [List.mem_range] at hi
  exact (box_tap hn hm hs (by omega) (boxOk_at hk hi)).2.2
/-- between equal lengths -/
theorem lin_self {n s : Int} {i : Nat} (hn : 1 ≤ n ∧ n ≤ 128) (hs : 0 ≤ s ∧ s ≤ 14) : linTap n n s i = ⟨i, [one s, 0]⟩ := by
  have hP : linP n n i = (2 * n) * i := by unfold linP; rw [Int.add_mul, Int.one_mul, Int.mul_right_comm]; omega
  have hK : linK n n i = i := by unfold linK; rw [hP]; exact Int.mul_ediv_cancel_left _ (by omega)
  have hW : linW n n s i = 0 := by
    unfold linW
    rw [hK, hP, Int.mul_comm (i : Int) (2 * n), Int.sub_self]
    simp
    exact Int.ediv_eq_zero_of_lt (by omega) (by omega)
  unfold linTap
  rw [hK, hW]; simp
theorem box_self {n s : Int} {i : Nat} (hn : 1 ≤ n ∧ n ≤ 128) (hi : (i : Int) < n) : boxN n n i = 1 ∧ boxTap n n s i = ⟨i, [one s]⟩ := by
  have hF : boxF n n i = i := by unfold boxF; exact Int.mul_ediv_cancel _ (by omega)
  have hN : boxN n n i = 1 := by
    unfold boxN
    have e : ((i : Int) + 1) * n + n - 1 = n - 1 + ((i : Int) + 1) * n := by omega
    rw [hF, e, Int.add_mul_ediv_right _ _ (by omega), Int.ediv_eq_zero_of_lt (by omega) (by omega)]
    omega
  have hPs : boxPs n n i = [n] := by
    unfold boxPs
    rw [hN]
    have : boxP n n i 0 = n := by
      unfold boxP
      rw [hF]
      simp
      rw [Int.add_mul, Int.one_mul]; omega
    show [boxP n n i 0] = [n]
    rw [this]
  refine ⟨hN, ?_⟩
  unfold boxTap
  rw [hF, hPs]
  have hq : one s * n / n = one s := Int.mul_ediv_cancel _ (by omega)
  have hfl : floorsL (one s) ([n] : List Int).sum [n] = [one s] := by simp [floorsL, hq]
  unfold divL
  rw [hfl]
  simp [iterD]
theorem boxOk_self {n : Int} (hn : 1 ≤ n ∧ n ≤ 128) : boxOk n n n.toNat = true := by
  unfold boxOk
  rw [List.all_eq_true]
  intro i hi
  rw [List.mem_range] at hi
  rw [(box_self (s := 0) hn (by omega)).1]; rfl
end Go.Proofs.YtjmdpebocchdhaaDoor
