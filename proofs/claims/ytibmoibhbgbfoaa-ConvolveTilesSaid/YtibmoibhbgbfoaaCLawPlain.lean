/- What convolutions say of one another, as plain lists: crops, sums of planes, the kernel 1, cyclic moves; small weights have no errors. No program is named. -/
import Derived.Test.YtibmoibhbgbfoaaCPlain
import Derived.Test.YtibmoibhbgbfoaaPLawPlain
import Derived.Test.YtibmoibhbgbfoaaWeights
import Derived.Test.YtibmoibhbgbfoaaBPlain
namespace Go.Proofs.Ytibmoibhbgbfoaa
set_option linter.unusedVariables false
set_option linter.unusedSimpArgs false

theorem clamp_bd {v m : Int} (hm : 0 ≤ m) : 0 ≤ clampN v m ∧ clampN v m ≤ m := by
  unfold clampN
  split
  · omega
  · split <;> omega
theorem clamp_id {v m : Int} (h0 : 0 ≤ v) (h1 : v ≤ m) : clampN v m = v := by
  unfold clampN
  rw [if_neg (by omega), if_neg (by omega)]
/-- the whole convolution is a valid plane -/
theorem conv_plane {W H M : Int} {P : List Int} {q f kw kh : Int} {K : List Int} {s out : Int} (hv : planeB W H M P = true) (ho : 1 ≤ out ∧ out ≤ 4294967296) : planeB W H out (convL W H P q f kw kh K s out 0 0 W H) = true := by
  obtain ⟨hz, hl, _⟩ := planeB_t.1 hv
  obtain ⟨w1, h1, hp, m1⟩ := sizeB_t.1 hz
  have hpos : 0 ≤ W * H := Int.mul_nonneg (by omega) (by omega)
  have e : (convL W H P q f kw kh K s out 0 0 W H).length = (W * H).toNat := by rw [convL_len, Int.sub_zero, Int.sub_zero]
  refine planeB_all (sizeB_t.2 ⟨w1, h1, hp, ho⟩) (by rw [e]; omega) (fun j hj => ?_)
  rw [convL_at (by rw [Int.sub_zero, Int.sub_zero, ← e]; exact hj)]
  exact clamp_bd (by omega)
/-- the tile of a rectangle is the crop of the whole -/
theorem conv_crop {W H M : Int} {P : List Int} {q f kw kh : Int} {K : List Int} {s out x0 y0 x1 y1 : Int} (hv : planeB W H M P = true) (ho : 1 ≤ out ∧ out ≤ 4294967296) (hx : 0 ≤ x0 ∧ x0 < x1 ∧ x1 ≤ W) (hy : 0 ≤ y0 ∧ y0 < y1 ∧ y1 ≤ H) :
    cropO W H out (convL W H P q f kw kh K s out 0 0 W H) x0 y0 x1 y1 = some (convL W H P q f kw kh K s out x0 y0 x1 y1) := by
  have hok := crop_ok (conv_plane (q := q) (f := f) (kw := kw) (kh := kh) (K := K) (s := s) hv ho) hx hy
  rw [crop_some hok]
  congr 1
  refine list_eq (by rw [cropL_len, convL_len]) (fun j hj => ?_)
  obtain ⟨i, hi, e, hij⟩ := crop_from hok hj
  rw [cropL_len] at hj
  rw [e, convL_at hj]
  rw [convL_len] at hi
  rw [convL_at hi]
  unfold convAt
  have hpos : 0 ≤ (x1 - x0) * (y1 - y0) := Int.mul_nonneg (by omega) (by omega)
  obtain ⟨p0, p1, p2, p3, p4⟩ := place_in (W := x1 - x0) (H := y1 - y0) (j := j) (by omega) (by omega)
  have e1 : (i : Int) % (W - 0) = x0 + (j : Int) % (x1 - x0) := by
    rw [Int.sub_zero, hij, Int.add_comm, Int.add_mul_emod_self_right]; exact Int.emod_eq_of_lt (by omega) (by omega)
  have e2 : (i : Int) / (W - 0) = y0 + (j : Int) / (x1 - x0) := by
    rw [Int.sub_zero, hij, Int.add_comm, Int.add_mul_ediv_right _ _ (by omega), Int.ediv_eq_zero_of_lt (by omega) (by omega)]; omega
  rw [e1, e2, Int.zero_add, Int.zero_add]
theorem small_all {K : List Int} (h : Small K) : K.all weightB = true := by
  rw [List.all_eq_true]
  intro v hv
  have := h v hv
  exact weightB_t.2 (by omega)
theorem lowN_bd {M : Int} (hM : 0 ≤ M) : ∀ {K : List Int}, Small K → -(20 * M * K.length) ≤ lowN K 0 M ∧ lowN K 0 M ≤ 0 ∧ 0 ≤ highN K 0 M ∧ highN K 0 M ≤ 20 * M * K.length
  | [], _ => by simp [lowN, highN]
  | v :: r, h => by
    have ih := lowN_bd hM (K := r) (fun x hx => h x (by simp [hx]))
    have hv := h v (by simp)
    have a1 : v * M ≤ 20 * M := Int.mul_le_mul_of_nonneg_right hv.2 hM
    have a2 : -20 * M ≤ v * M := Int.mul_le_mul_of_nonneg_right hv.1 hM
    have e1 : lowN (v :: r) 0 M = lowT 0 M v + lowN r 0 M := by simp [lowN]
    have e2 : highN (v :: r) 0 M = highT 0 M v + highN r 0 M := by simp [highN]
    have e3 : 20 * M * ((v :: r).length : Int) = 20 * M * (r.length : Int) + 20 * M := by simp [Int.mul_add]
    rw [e1, e2, e3]
    unfold lowT highT
    rw [Int.mul_zero]
    omega
/-- small weights have no errors -/
theorem small_check {M kw kh : Int} {K : List Int} {s out : Int} (hM : 1 ≤ M ∧ M ≤ 65535) (h1 : 1 ≤ kw ∧ kw ≤ 9) (h2 : 1 ≤ kh ∧ kh ≤ 9) (hl : (K.length : Int) = kw * kh) (hS : Small K) (hs : 0 ≤ s ∧ s ≤ 24) (ho : 1 ≤ out ∧ out ≤ 4294967296) : checkC M kw kh K s out = 0 := by
  have hk := small_all hS
  have hp1 : kw * kh ≤ 9 * 9 := Int.mul_le_mul h1.2 h2.2 (by omega) (by omega)
  have hp0 : 1 * 1 ≤ kw * kh := Int.mul_le_mul h1.1 h2.1 (by omega) (by omega)
  have hb := lowN_bd (K := K) (M := M) (by omega) hS
  have hm : 20 * M * (K.length : Int) ≤ 20 * 65535 * 81 := Int.mul_le_mul (by omega) (by omega) (by omega) (by omega)
  have hW : weightsC K = 0 := by unfold weightsC; rw [if_neg (by omega), if_pos hk]
  have hR : rangeB K 0 M = true := by unfold rangeB; simp [hW]; omega
  have hB : boundsB K 0 M = true := by
    unfold boundsB
    rw [hR, accB_t.2 (by omega), accB_t.2 (by omega)]; rfl
  unfold checkC
  rw [sideK_t.2 h1, sideK_t.2 h2, hk, shiftB_t.2 hs, valueB_t.2 (by omega), valueB_t.2 ho, hB]
  simp [hl]
theorem full_in {x0 y0 x1 y1 W H : Int} (hx : 0 ≤ x0 ∧ x0 < x1 ∧ x1 ≤ W) (hy : 0 ≤ y0 ∧ y0 < y1 ∧ y1 ≤ H) (hW : W ≤ 128) (hH : H ≤ 128) : fullB x0 y0 x1 y1 = true ∧ insideB x0 y0 x1 y1 0 0 W H = true := by
  obtain ⟨e, i⟩ := inside_plane hx hy hW hH
  refine ⟨?_, i⟩
  unfold fullB
  rw [e]
  have hv : validB x0 y0 x1 y1 = true := by rw [validB_t]; omega
  rw [hv]; rfl
/-- where a tile has no error -/
theorem tile_ok {W H M : Int} {P : List Int} {q f kw kh : Int} {K : List Int} {s out x0 y0 x1 y1 : Int} (hv : planeB W H M P = true) (he : edgeB q f M = true) (hc : checkC M kw kh K s out = 0) (hx : 0 ≤ x0 ∧ x0 < x1 ∧ x1 ≤ W) (hy : 0 ≤ y0 ∧ y0 < y1 ∧ y1 ≤ H) : tileC W H M P q f kw kh K s out x0 y0 x1 y1 = 0 ∧ tileO W H M P q f kw kh K s out x0 y0 x1 y1 = some (convL W H P q f kw kh K s out x0 y0 x1 y1) := by
  obtain ⟨w1, h1, hp, m1⟩ := sizeB_t.1 (planeB_t.1 hv).1
  obtain ⟨f1, i1⟩ := full_in hx hy (by omega) (by omega)
  have e : tileC W H M P q f kw kh K s out x0 y0 x1 y1 = 0 := by
    unfold tileC
    rw [hv, he, f1, i1, hc]; simp
  exact ⟨e, by unfold tileO; rw [if_pos e]⟩
/-- pixels add up -/
theorem pix_add {W H : Int} {P Q R : List Int} {q x y : Int} (h : ∀ j, R.getD j 0 = P.getD j 0 + Q.getD j 0) : pixN W H R q 0 x y = pixN W H P q 0 x y + pixN W H Q q 0 x y := by
  unfold pixN
  rcases pixO W H q x y with _ | j
  · rfl
  · exact h _
theorem convS_add {W H : Int} {P Q R : List Int} {q kw kh : Int} {K : List Int} {x y : Int} (h : ∀ j, R.getD j 0 = P.getD j 0 + Q.getD j 0) : ∀ n, convS W H R q 0 kw kh K x y n = convS W H P q 0 kw kh K x y n + convS W H Q q 0 kw kh K x y n
  | 0 => by simp [convS]
  | n + 1 => by
    rw [convS_step, convS_step, convS_step, convS_add h n]
    unfold convT
    rw [pix_add h, Int.mul_add]; omega
/-- bounds of a sum with weights that are not negative -/
theorem convS_pos {W H M : Int} {P : List Int} {q f kw kh : Int} {K : List Int} {c B : Int} (hv : planeB W H M P = true) (he : edgeB q f M = true) (hK : ∀ v ∈ K, 0 ≤ v ∧ v ≤ c) (x y : Int) (hB : ∀ x y : Int, pixN W H P q f x y ≤ B) (hB0 : 0 ≤ B) : ∀ n : Nat, n ≤ K.length → 0 ≤ convS W H P q f kw kh K x y n ∧ convS W H P q f kw kh K x y n ≤ c * B * n
  | 0, _ => by simp [convS]
  | n + 1, h => by
    have ih := convS_pos (c := c) (kw := kw) (kh := kh) hv he hK x y hB hB0 n (by omega)
    have hk : K.getD n 0 ∈ K := by rw [List.getD_eq_getElem?_getD, List.getElem?_eq_getElem (by omega)]; exact List.getElem_mem _
    have h1 := hK _ hk
    have h2 := pix_bd hv he (x + (n : Int) % kw - kw / 2) (y + (n : Int) / kw - kh / 2)
    have h3 := hB (x + (n : Int) % kw - kw / 2) (y + (n : Int) / kw - kh / 2)
    rw [convS_step]
    unfold convT
    have h4 := Int.mul_nonneg h1.1 h2.1
    have h5 : K.getD n 0 * pixN W H P q f (x + (n : Int) % kw - kw / 2) (y + (n : Int) / kw - kh / 2) ≤ c * B := Int.mul_le_mul h1.2 h3 h2.1 (by omega)
    have e3 : c * B * ((n + 1 : Nat) : Int) = c * B * (n : Int) + c * B := by rw [Int.natCast_add, Int.mul_add]; simp
    rw [e3]; omega
end Go.Proofs.Ytibmoibhbgbfoaa
