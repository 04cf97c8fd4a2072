/- Weights and Bounds of the reference as contracts: what each returns; the world gets draws at most. -/
import Derived.Test.YtjmdpebocchdhaaDoorHShift
import Derived.Test.YtjmdpebocchdhaaDoorPPlain
import Derived.Lib.MinMax
namespace Go.Proofs.YtjmdpebocchdhaaDoor
open Go.ChangeShapes Go.WideShapes Go.ChangeAt Go.RowKit
set_option linter.unusedVariables false
set_option linter.unusedSimpArgs false

theorem all_drop {L : List Int} {k : Nat} (hk : k < L.length) : (L.drop k).all weightB = (weightB (L.getD k 0) && (L.drop (k + 1)).all weightB) := by
  rw [List.drop_eq_getElem_cons hk, List.all_cons, List.getD_eq_getElem?_getD, List.getElem?_eq_getElem hk]; rfl
theorem rareW_any (L : List Int) (a : Option Addr) (cap : Nat) (w : World) (hs : SliceIs w a L) (hl : L.length ≤ 9223372036854775807) : Calls Tryd.prog 28 #[.slice a L.length cap] w fun e w' => e = .returned (.bool (L.all weightB)) ∧ w = w' := by
  have hs' := Lib.hid hs
  have HD := Lib.hid (show L.all weightB = (L.drop 0).all weightB from rfl)
  obtain ⟨n, en⟩ : ∃ n, L.length = n := ⟨_, rfl⟩
  have En := Lib.hid en
  rw [en] at hl ⊢
  clear hs en
  go_enter Tryd.func28, Tryd.ntmps28
  go_wp2_with fail
  go_loop [3] (fun i => ∃ k : Nat, k ≤ n ∧ i = .int .i64 k ∧ Hid (L.all weightB = (L.drop k).all weightB)) (fun i => n - (intOf i).toNat)
  case atStart => exact ⟨0, by omega, rfl, HD⟩
  case round =>
    obtain ⟨k, hk, rfl, HK⟩ := hrel
    by_cases hlt : k < n
    · obtain ⟨b, off, rfl, hcell⟩ := hs'.out k (by rw [En.out]; exact hlt)
      have hd := all_drop (L := L) (k := k) (by rw [En.out]; exact hlt)
      obtain ⟨v, ev⟩ : ∃ v, L.getD k 0 = v := ⟨_, rfl⟩
      rw [ev] at hcell hd
      clear ev
      have hkI : (k : Int) < n := by omega
      rcases hv : weightB v with _ | _
      · have Hv := Lib.hid hv
        have HR : Hid (L.all weightB = false) := Lib.hid (by rw [HK.out, hd, hv]; rfl)
        clear hv hd HK
        go_wp2_with fail
        refine (rweightB_is Hv.out _).mono ?_; rintro e w1 ⟨rfl, rfl⟩
        go_wp2_with fail
        go_ret
        exact ⟨ret_bool HR.out.symm, rfl⟩
      · have Hv := Lib.hid hv
        have HR : Hid (L.all weightB = (L.drop (k + 1)).all weightB) := Lib.hid (by rw [HK.out, hd, hv]; simp)
        clear hv hd HK
        go_wp2_with fail
        refine (rweightB_is Hv.out _).mono ?_; rintro e w1 ⟨rfl, rfl⟩
        go_wp2_with fail
        go_round
        case rel => exact ⟨k + 1, by omega, by go_num, HR⟩
        case measure => simp [intOf]; omega
    · have HR : Hid (L.all weightB = true) := Lib.hid (by rw [HK.out, List.drop_eq_nil_of_le (by rw [En.out]; omega)]; rfl)
      clear HK
      go_wp2_with fail
      go_ret
      exact ⟨ret_bool HR.out.symm, rfl⟩
theorem weights_cases (L : List Int) : ((L.length = 0 ∨ 81 < L.length) ∧ weightsC L = 9) ∨ ((1 ≤ L.length ∧ L.length ≤ 81) ∧ L.all weightB = true ∧ weightsC L = 0) ∨ ((1 ≤ L.length ∧ L.length ≤ 81) ∧ L.all weightB = false ∧ weightsC L = 10) := by
  unfold weightsC
  by_cases h : L.length = 0 ∨ 81 < L.length
  · left; exact ⟨h, if_pos h⟩
  · right
    rw [if_neg h]
    rcases ha : L.all weightB with _ | _
    · right; exact ⟨by omega, rfl, by simp⟩
    · left; exact ⟨by omega, rfl, by simp⟩
theorem rareW_is {L : List Int} {b : Bool} (hb : L.all weightB = b) (a : Option Addr) (cap : Nat) (w : World) (hs : SliceIs w a L) (hl : L.length ≤ 9223372036854775807) : Calls Tryd.prog 28 #[.slice a L.length cap] w fun e w' => e = .returned (.bool b) ∧ w = w' := by
  rw [← hb]; exact rareW_any L a cap w hs hl
/-- what Bounds leaves -/
def BoundsPost (L : List Int) (lo hi : Int) (w : World) (e : Ending) (w' : World) : Prop := e = .returned (.tuple #[.int .i64 (boundsA L lo hi), .int .i64 (boundsZ L lo hi), .bool (boundsB L lo hi)]) ∧ Below w.heap.size w w'
theorem hret_iib {a b c d : Int} {e f : Bool} (h : a = b ∧ c = d ∧ e = f) : Ending.returned (.tuple #[.int .i64 a, .int .i64 c, .bool e]) = .returned (.tuple #[.int .i64 b, .int .i64 d, .bool f]) := by rw [h.1, h.2.1, h.2.2]
theorem bounds_no {L : List Int} {lo hi : Int} (h : boundsB L lo hi = false) : boundsA L lo hi = 0 ∧ boundsZ L lo hi = 0 := by unfold boundsA boundsZ; rw [h]; simp
theorem bounds_yes {L : List Int} {lo hi : Int} (h : boundsB L lo hi = true) : boundsA L lo hi = lowN L lo hi ∧ boundsZ L lo hi = highN L lo hi := by unfold boundsA boundsZ; rw [h]; simp
theorem bounds_range {L : List Int} {lo hi : Int} (h : rangeB L lo hi = false) : boundsB L lo hi = false := by unfold boundsB; simp [h]
theorem hsum_take {f : Int → Int} {L : List Int} {k : Nat} (hk : k < L.length) : ((L.take (k + 1)).map f).sum = ((L.take k).map f).sum + f (L.getD k 0) := by
  rw [List.take_succ_eq_append_getElem hk, List.map_append, List.sum_append, List.getD_eq_getElem?_getD, List.getElem?_eq_getElem hk]; simp
theorem all_at {L : List Int} (h : L.all weightB = true) {k : Nat} (hk : k < L.length) : -32767 ≤ L.getD k 0 ∧ L.getD k 0 ≤ 32767 := by
  rw [List.all_eq_true] at h
  have := h (L.getD k 0) (by rw [List.getD_eq_getElem?_getD, List.getElem?_eq_getElem hk]; exact List.getElem_mem _)
  exact weightB_t.1 this
/-- a weight times a number that is permitted -/
theorem prod_w {v x : Int} (hv : -32767 ≤ v ∧ v ≤ 32767) (hx : -68719476736 ≤ x ∧ x ≤ 68719476736) : -2251799813685248 ≤ v * x ∧ v * x ≤ 2251799813685248 := by
  have e : ∀ a b : Int, 0 ≤ a → a ≤ 32767 → 0 ≤ b → b ≤ 68719476736 → 0 ≤ a * b ∧ a * b ≤ 2251799813685248 := fun a b a0 a1 b0 b1 => by
    have h1 := Int.mul_nonneg a0 b0
    have h2 : a * b ≤ 32767 * 68719476736 := Int.mul_le_mul a1 b1 b0 (by omega)
    omega
  rcases Int.lt_or_le v 0 with g | g <;> rcases Int.lt_or_le x 0 with g2 | g2
  · have := e (-v) (-x) (by omega) (by omega) (by omega) (by omega)
    rw [Int.neg_mul_neg] at this; omega
  · have := e (-v) x (by omega) (by omega) (by omega) (by omega)
    rw [Int.neg_mul] at this; omega
  · have := e v (-x) (by omega) (by omega) (by omega) (by omega)
    rw [Int.mul_neg] at this; omega
  · have := e v x (by omega) (by omega) (by omega) (by omega)
    omega
/-- where the loop over the weights stands -/
def SumsAt (L : List Int) (lo hi A B : Int) (k : Nat) : Prop := A = ((L.take k).map (lowT lo hi)).sum ∧ B = ((L.take k).map (highT lo hi)).sum
end Go.Proofs.YtjmdpebocchdhaaDoor
