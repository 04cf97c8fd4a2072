/- The list of the touched tiles: its members, that it ascends, and that it names the tile of each point of the rectangle. No program is named. -/
import Derived.Test.YtpbapamoihkaoaaGLawPlain
namespace Go.Proofs.Ytpbapamoihkaoaa
set_option linter.unusedVariables false
set_option linter.unusedSimpArgs false

theorem upT_mem {T : Nat → Bool} {n : Nat} {x : Int} : x ∈ upT T n ↔ ∃ m : Nat, m < n ∧ T m = true ∧ (m : Int) = x := by
  simp [upT, and_assoc]
theorem upT_asc (T : Nat → Bool) (n : Nat) : (upT T n).Pairwise (· < ·) := by
  unfold upT
  rw [List.pairwise_map]
  refine List.Pairwise.imp (R := (· < ·)) (fun h => by omega) ?_
  exact List.Pairwise.filter _ List.pairwise_lt_range
/-- a member that is read by its place -/
theorem touch_at_k {w h t u a b c d : Int} {k : Nat} (hk : k < (touchL w h t u a b c d).length) : touchB w h t u a b c d ((touchL w h t u a b c d).getD k 0) = true ∧ 0 ≤ (touchL w h t u a b c d).getD k 0 ∧ (touchL w h t u a b c d).getD k 0 ≤ 16384 := by
  have hm : (touchL w h t u a b c d).getD k 0 ∈ touchL w h t u a b c d := by
    rw [List.getD_eq_getElem?_getD, List.getElem?_eq_getElem hk]; exact List.getElem_mem _
  generalize (touchL w h t u a b c d).getD k 0 = x at *
  unfold touchL at hm
  obtain ⟨m, h1, h2, rfl⟩ := upT_mem.1 hm
  have := cr_bd w h t u
  exact ⟨h2, by omega, by omega⟩
theorem touch_up {w h t u a b c d : Int} {j k : Nat} (hj : j < k) (hk : k < (touchL w h t u a b c d).length) : (touchL w h t u a b c d).getD j 0 < (touchL w h t u a b c d).getD k 0 := by
  have hp := upT_asc (fun k => touchB w h t u a b c d k) (colN w h t u * rowN w h t u).toNat
  have := List.pairwise_iff_getElem.1 hp j k (Nat.lt_trans hj hk) hk hj
  rw [List.getD_eq_getElem?_getD, List.getD_eq_getElem?_getD, List.getElem?_eq_getElem hk, List.getElem?_eq_getElem (Nat.lt_trans hj hk)]
  exact this
/-- the tile of a point of the rectangle is touched -/
theorem touch_point {w h t u a b c d x y : Int} (ho : ofB w h t u x y = true) (hc : containsB a b c d x y = true) : ofN w h t u x y ∈ touchL w h t u a b c d := by
  obtain ⟨hf, hx0, hx1, hy0, hy1⟩ := ofB_t.1 ho
  have hb := fineB_t.1 hf
  obtain ⟨hv, c0, c1, c2, c3⟩ := containsB_t.1 hc
  have hbd := of_bd ho
  have hn := of_yes ho
  have hcl := (counts hf).1
  have hrg := of_rng w h t u x y
  have cm : colN w h t u * (y / u) = y / u * colN w h t u := Int.mul_comm _ _
  obtain ⟨e1, e2⟩ := (Int.ediv_emod_unique (a := ofN w h t u x y) (b := colN w h t u) (r := x / t) (q := y / u) (by omega)).2 ⟨by omega, by omega, by omega⟩
  have a1 : x / t * t ≤ x := Int.ediv_mul_le _ (by omega)
  have a2 : x < x / t * t + t := by have := Int.lt_ediv_add_one_mul_self x (show 0 < t by omega); rw [Int.add_mul] at this; omega
  have b1 : y / u * u ≤ y := Int.ediv_mul_le _ (by omega)
  have b2 : y < y / u * u + u := by have := Int.lt_ediv_add_one_mul_self y (show 0 < u by omega); rw [Int.add_mul] at this; omega
  have hB : tileB w h t u (ofN w h t u x y) = true := tileB_t.2 (by omega)
  have hT : touchB w h t u a b c d (ofN w h t u x y) = true := by
    rw [touch_iff, e1, e2]
    generalize x / t * t = X at *
    generalize y / u * u = Y at *
    exact ⟨hB, hv, by omega, by omega⟩
  unfold touchL
  rw [upT_mem]
  have hlt := (tileB_t.1 hB)
  refine ⟨(ofN w h t u x y).toNat, by omega, ?_, by omega⟩
  rw [show (((ofN w h t u x y).toNat : Nat) : Int) = ofN w h t u x y by omega]; exact hT
theorem take_more {L : List Int} {k : Nat} (h : k < L.length) (n : Int) : decide (n ∈ L.take (k + 1)) = (decide (n ∈ L.take k) || (L.getD k 0 == n)) := by
  rw [List.take_succ_eq_append_getElem h, List.getD_eq_getElem?_getD, List.getElem?_eq_getElem h, Bool.eq_iff_iff]
  simp only [List.mem_append, List.mem_singleton, decide_eq_true_eq, Bool.or_eq_true, Option.getD_some, beq_iff_eq]
  exact or_congr Iff.rfl eq_comm
end Go.Proofs.Ytpbapamoihkaoaa
