/- Cyclic moves of planes: where a place goes, and what wrapped pixels and convolutions become. No program is named. -/
import Derived.Test.YtibmoibhbgbfoaaCLawPlain
namespace Go.Proofs.Ytibmoibhbgbfoaa
set_option linter.unusedVariables false
set_option linter.unusedSimpArgs false

/-- where place j of a plane goes -/
def mvI (W n : Int) (j : Nat) : Int := (j : Int) / W * W + ((j : Int) % W + n) % W
theorem mv_facts {W H n : Int} {j : Nat} (hW : 1 ≤ W) (hj : (j : Int) < W * H) : (0 ≤ mvI W n j ∧ mvI W n j < W * H) ∧ mvI W n j % W = ((j : Int) % W + n) % W ∧ mvI W n j / W = (j : Int) / W := by
  obtain ⟨p0, p1, p2, p3, p4⟩ := place_in (W := W) (H := H) (j := j) hW hj
  have r0 := Int.emod_nonneg ((j : Int) % W + n) (show W ≠ 0 by omega)
  have r1 := Int.emod_lt_of_pos ((j : Int) % W + n) (show 0 < W by omega)
  obtain ⟨t0, t1⟩ := place_bd (W := W) (H := H) p2 p3 r0 r1
  refine ⟨⟨by unfold mvI; omega, t1⟩, ?_, ?_⟩
  · unfold mvI
    rw [Int.add_comm, Int.add_mul_emod_self_right]; exact Int.emod_eq_of_lt r0 r1
  · unfold mvI
    rw [Int.add_comm, Int.add_mul_ediv_right _ _ (by omega), Int.ediv_eq_zero_of_lt r0 r1]; omega
theorem mv_inj {W H n : Int} {i j : Nat} (hW : 1 ≤ W) (hi : (i : Int) < W * H) (hj : (j : Int) < W * H) (h : mvI W n i = mvI W n j) : i = j := by
  obtain ⟨_, a1, a2⟩ := mv_facts (n := n) hW hi
  obtain ⟨_, b1, b2⟩ := mv_facts (n := n) hW hj
  obtain ⟨p0, p1, p2, p3, p4⟩ := place_in (W := W) (H := H) (j := i) hW hi
  obtain ⟨q0, q1, q2, q3, q4⟩ := place_in (W := W) (H := H) (j := j) hW hj
  rw [h] at a1 a2
  have e1 : (i : Int) / W = (j : Int) / W := by rw [← a2, b2]
  have e2 : ((i : Int) % W + n) % W = ((j : Int) % W + n) % W := by rw [← a1, b1]
  have e3 : (i : Int) % W = (j : Int) % W := by
    have h1 : ((i : Int) % W + n - ((j : Int) % W + n)) % W = 0 := by rw [Int.sub_emod, e2, Int.sub_self, Int.zero_emod]
    have h2 : ((i : Int) % W - (j : Int) % W) % W = 0 := by rw [show (i : Int) % W - (j : Int) % W = (i : Int) % W + n - ((j : Int) % W + n) by omega]; exact h1
    have h3 : W ∣ ((i : Int) % W - (j : Int) % W) := Int.dvd_of_emod_eq_zero h2
    obtain ⟨c, hc⟩ := h3
    rcases Int.lt_trichotomy c 0 with g | g | g
    · have : W * c ≤ W * (-1) := Int.mul_le_mul_of_nonneg_left (by omega) (by omega)
      omega
    · rw [g] at hc; omega
    · have : W * 1 ≤ W * c := Int.mul_le_mul_of_nonneg_left (by omega) (by omega)
      omega
  rw [e1, e3] at p4
  omega
/-- each place is that of another one -/
theorem mv_sur {W H n : Int} {i : Nat} (hW : 1 ≤ W) (hi : (i : Int) < W * H) : ∃ j : Nat, (j : Int) < W * H ∧ mvI W n j = i ∧ (j : Int) = (i : Int) / W * W + ((i : Int) % W - n) % W := by
  obtain ⟨p0, p1, p2, p3, p4⟩ := place_in (W := W) (H := H) (j := i) hW hi
  have r0 := Int.emod_nonneg ((i : Int) % W - n) (show W ≠ 0 by omega)
  have r1 := Int.emod_lt_of_pos ((i : Int) % W - n) (show 0 < W by omega)
  obtain ⟨t0, t1⟩ := place_bd (W := W) (H := H) p2 p3 r0 r1
  obtain ⟨J, eJ⟩ : ∃ J, (i : Int) / W * W + ((i : Int) % W - n) % W = J := ⟨_, rfl⟩
  rw [eJ] at t1
  have hJ : 0 ≤ J := by omega
  refine ⟨J.toNat, by omega, ?_, by omega⟩
  have e : ((J.toNat : Nat) : Int) = J := by omega
  have e1 : J % W = ((i : Int) % W - n) % W := by
    rw [← eJ, Int.add_comm, Int.add_mul_emod_self_right]; exact Int.emod_eq_of_lt r0 r1
  have e2 : J / W = (i : Int) / W := by
    rw [← eJ, Int.add_comm, Int.add_mul_ediv_right _ _ (by omega), Int.ediv_eq_zero_of_lt r0 r1]; omega
  unfold mvI
  rw [e, e1, e2]
  have e3 : (((i : Int) % W - n) % W + n) % W = (i : Int) % W := by
    rw [Int.emod_add_emod, show (i : Int) % W - n + n = (i : Int) % W by omega]; exact Int.emod_eq_of_lt p0 p1
  rw [e3]; exact p4
/-- what a moved plane is -/
def MovedTo (W H n : Int) (P Q : List Int) (k : Nat) : Prop := Q.length = P.length ∧ ∀ j : Nat, j < k → Q.getD (mvI W n j).toNat 0 = P.getD j 0
theorem moved_zero (W H n : Int) (P Q : List Int) (h : Q.length = P.length) : MovedTo W H n P Q 0 := ⟨h, fun j hj => by omega⟩
theorem moved_step {W H n : Int} {P Q : List Int} {k : Nat} (h : MovedTo W H n P Q k) (hW : 1 ≤ W) (hl : (P.length : Int) = W * H) (hk : k < P.length) : MovedTo W H n P (Q.set (mvI W n k).toNat (P.getD k 0)) (k + 1) := by
  obtain ⟨b, _⟩ := mv_facts (n := n) (H := H) (j := k) hW (by omega)
  refine ⟨by rw [List.length_set]; exact h.1, fun j hj => ?_⟩
  by_cases e : j = k
  · subst e
    rw [List.getD_eq_getElem?_getD, List.getElem?_set_self (by rw [h.1]; omega)]; rfl
  · obtain ⟨b2, _⟩ := mv_facts (n := n) (H := H) (j := j) hW (by omega)
    have hne : ¬ (mvI W n k).toNat = (mvI W n j).toNat := fun g => e (mv_inj (H := H) (n := n) hW (by omega) (by omega) (show mvI W n j = mvI W n k by omega))
    rw [List.getD_eq_getElem?_getD, List.getElem?_set_ne hne, ← List.getD_eq_getElem?_getD]
    exact h.2 j (by omega)
theorem moved_plane {W H M n : Int} {P Q : List Int} (hv : planeB W H M P = true) (h : MovedTo W H n P Q P.length) : planeB W H M Q = true := by
  obtain ⟨hz, hl, hp⟩ := planeB_t.1 hv
  obtain ⟨w1, h1, _, _⟩ := sizeB_t.1 hz
  refine planeB_all hz (by rw [h.1]; exact hl) (fun i hi => ?_)
  rw [h.1] at hi
  obtain ⟨j, hj, e, _⟩ := mv_sur (n := n) (H := H) (i := i) w1.1 (by omega)
  have := h.2 j (by omega)
  rw [e, Int.toNat_natCast] at this
  rw [this]
  exact hp j (by omega)
/-- wrapped pixels -/
theorem pix_wrap {W H : Int} {P : List Int} {x y : Int} (hW : 1 ≤ W ∧ W ≤ 128) (hH : 1 ≤ H ∧ H ≤ 128) : pixN W H P 2 0 x y = P.getD (y % H * W + x % W).toNat 0 := by
  unfold pixN pixO
  rw [idx_wrap hW.1 hW.2, idx_wrap hH.1 hH.2]
theorem pix_moved {W H M n : Int} {P Q : List Int} (hv : planeB W H M P = true) (h : MovedTo W H n P Q P.length) (x y : Int) : pixN W H Q 2 0 x y = pixN W H P 2 0 (x - n) y := by
  obtain ⟨hz, hl, hp⟩ := planeB_t.1 hv
  obtain ⟨w1, h1, _, _⟩ := sizeB_t.1 hz
  rw [pix_wrap w1 h1, pix_wrap w1 h1]
  have x0 := Int.emod_nonneg x (show W ≠ 0 by omega)
  have x1 := Int.emod_lt_of_pos x (show 0 < W by omega)
  have y0 := Int.emod_nonneg y (show H ≠ 0 by omega)
  have y1 := Int.emod_lt_of_pos y (show 0 < H by omega)
  obtain ⟨t0, t1⟩ := place_bd (W := W) (H := H) y0 y1 x0 x1
  obtain ⟨I, eI⟩ : ∃ I, y % H * W + x % W = I := ⟨_, rfl⟩
  rw [eI] at t1 ⊢
  have hI : 0 ≤ I := by omega
  obtain ⟨j, hj, e, ej⟩ := mv_sur (n := n) (H := H) (i := I.toNat) w1.1 (by omega)
  have eIn : ((I.toNat : Nat) : Int) = I := by omega
  rw [eIn] at e ej
  have e1 : I % W = x % W := by rw [← eI, Int.add_comm, Int.add_mul_emod_self_right]; exact Int.emod_eq_of_lt x0 x1
  have e2 : I / W = y % H := by rw [← eI, Int.add_comm, Int.add_mul_ediv_right _ _ (by omega), Int.ediv_eq_zero_of_lt x0 x1]; omega
  rw [e1, e2, Int.emod_sub_emod] at ej
  have := h.2 j (by omega)
  rw [e] at this
  rw [this, ← ej, Int.toNat_natCast]
theorem conv_moved {W H M n kw kh : Int} {P Q : List Int} {K : List Int} (hv : planeB W H M P = true) (h : MovedTo W H n P Q P.length) (x x' y : Int) (hx : x % W = (x' + n) % W) : ∀ k, convS W H Q 2 0 kw kh K x y k = convS W H P 2 0 kw kh K x' y k
  | 0 => by simp [convS]
  | k + 1 => by
    obtain ⟨hz, _, _⟩ := planeB_t.1 hv
    obtain ⟨w1, h1, _, _⟩ := sizeB_t.1 hz
    rw [convS_step, convS_step, conv_moved hv h x x' y hx k]
    unfold convT
    rw [pix_moved hv h, pix_wrap w1 h1, pix_wrap w1 h1]
    have e : (x + (k : Int) % kw - kw / 2 - n) % W = (x' + (k : Int) % kw - kw / 2) % W := by
      rw [show x + (k : Int) % kw - kw / 2 - n = x + ((k : Int) % kw - kw / 2 - n) by omega, Int.add_emod, hx, ← Int.add_emod, show x' + n + ((k : Int) % kw - kw / 2 - n) = x' + (k : Int) % kw - kw / 2 by omega]
    rw [e]
/-- the convolution of the moved plane is the moved convolution -/
theorem convL_moved {W H M n kw kh : Int} {P Q K : List Int} {s out : Int} (hv : planeB W H M P = true) (h : MovedTo W H n P Q P.length) {j : Nat} (hj : (j : Int) < W * H) : (convL W H Q 2 0 kw kh K s out 0 0 W H).getD (mvI W n j).toNat 0 = (convL W H P 2 0 kw kh K s out 0 0 W H).getD j 0 := by
  obtain ⟨hz, _, _⟩ := planeB_t.1 hv
  obtain ⟨w1, h1, _, _⟩ := sizeB_t.1 hz
  obtain ⟨b, e1, e2⟩ := mv_facts (n := n) (H := H) w1.1 hj
  obtain ⟨p0, p1, p2, p3, p4⟩ := place_in (W := W) (H := H) (j := j) w1.1 hj
  rw [convL_at (by rw [Int.sub_zero, Int.sub_zero]; omega), convL_at (by rw [Int.sub_zero, Int.sub_zero]; omega)]
  unfold convAt convP
  have eM : (((mvI W n j).toNat : Nat) : Int) = mvI W n j := by omega
  rw [Int.sub_zero, eM, e1, e2, Int.zero_add, Int.zero_add, Int.zero_add]
  rw [conv_moved hv h _ ((j : Int) % W) _ (Int.emod_emod_of_dvd _ (Int.dvd_refl W))]
/-- the place behind Go's operations -/
theorem mv_wraps {W H M n : Int} {P : List Int} {k : Nat} (hv : planeB W H M P = true) (hn : 0 ≤ n ∧ n < W) (hk : k < P.length) : ∃ (d r : Int) (r2 t e : Int) (v : Nat), (k : Int).tdiv W = d ∧ IntKind.i64.wrap d = d ∧ d * W = e ∧ IntKind.i64.wrap e = e ∧ (k : Int).tmod W = r ∧ IntKind.i64.wrap r = r ∧ r + n = r2 ∧ IntKind.i64.wrap r2 = r2 ∧ r2.tmod W = t ∧ IntKind.i64.wrap t = t ∧ e + t = (v : Int) ∧ IntKind.i64.wrap (v : Int) = (v : Int) ∧ v < P.length ∧ v = (mvI W n k).toNat := by
  obtain ⟨hz, hl, _⟩ := planeB_t.1 hv
  obtain ⟨w1, h1, hp, _⟩ := sizeB_t.1 hz
  obtain ⟨b, e1, e2⟩ := mv_facts (n := n) (H := H) (j := k) w1.1 (by omega)
  obtain ⟨p0, p1, p2, p3, p4⟩ := place_in (W := W) (H := H) (j := k) w1.1 (by omega)
  have r0 := Int.emod_nonneg ((k : Int) % W + n) (show W ≠ 0 by omega)
  have r1 := Int.emod_lt_of_pos ((k : Int) % W + n) (show 0 < W by omega)
  have i64 : ∀ z : Int, -1000000 ≤ z → z ≤ 1000000 → IntKind.i64.wrap z = z := fun z h0 h1 => IntWalk.i64_in _ (by omega)
  have d0 : 0 ≤ (k : Int) / W * W := Int.mul_nonneg p2 (by omega)
  refine ⟨(k : Int) / W, (k : Int) % W, (k : Int) % W + n, ((k : Int) % W + n) % W, (k : Int) / W * W, (mvI W n k).toNat, Int.tdiv_eq_ediv_of_nonneg (by omega), i64 _ (by omega) (by omega), rfl, i64 _ (by omega) (by omega), Int.tmod_eq_emod_of_nonneg (by omega), i64 _ (by omega) (by omega), rfl, i64 _ (by omega) (by omega), Int.tmod_eq_emod_of_nonneg (by omega), i64 _ (by omega) (by omega), ?_, i64 _ (by omega) (by omega), by omega, rfl⟩
  have : ((mvI W n k).toNat : Int) = mvI W n k := by omega
  rw [this]; rfl
end Go.Proofs.Ytibmoibhbgbfoaa
