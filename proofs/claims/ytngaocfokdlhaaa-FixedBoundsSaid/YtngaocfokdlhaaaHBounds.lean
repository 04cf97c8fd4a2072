/- Weights and Bounds of the reference as contracts: what each returns; the world gets draws at most. -/
import Derived.Test.YtngaocfokdlhaaaHShift
import Derived.Test.YtngaocfokdlhaaaPPlain
import Derived.Lib.MinMax
namespace Go.Proofs.Ytngaocfokdlhaaa
open Go.ChangeShapes Go.WideShapes Go.ChangeAt Go.RowKit
set_option linter.unusedVariables false
set_option linter.unusedSimpArgs false

theorem all_drop {L : List Int} {k : Nat} (hk : k < L.length) : (L.drop k).all weightB = (weightB (L.getD k 0) && (L.drop (k + 1)).all weightB) := by
  rw [List.drop_eq_getElem_cons hk, List.all_cons, List.getD_eq_getElem?_getD, List.getElem?_eq_getElem hk]; rfl
theorem rareW_any (L : List Int) (a : Option Addr) (cap : Nat) (w : World) (hs : SliceIs w a L) (hl : L.length ≤ 9223372036854775807) : Calls Try.prog 26 #[.slice a L.length cap] w fun e w' => e = .returned (.bool (L.all weightB)) ∧ w = w' := by
  have hs' := Lib.hid hs
  have HD := Lib.hid (show L.all weightB = (L.drop 0).all weightB from rfl)
  obtain ⟨n, en⟩ : ∃ n, L.length = n := ⟨_, rfl⟩
  have En := Lib.hid en
  rw [en] at hl ⊢
  clear hs en
  go_enter Try.func26, Try.ntmps26
  go_wp2_with fail
  go_loop [3] (fun i => ∃ k : Nat, k ≤ n ∧ i = .int .i64 k ∧ Hid (L.all weightB = (L.drop k).all weightB)) (fun i => n - (intOf i).toNat)
  case atStart => exact ⟨0, by omega, rfl, HD⟩
  case round =>
    obtain ⟨k, hk, rfl, HK⟩ := hrel
    by_cases hlt : k < n
    · obtain ⟨b, off, rfl, hcell⟩ := hs'.out k (by rw [En.out]; exact hlt)
      have hd := all_drop (L := L) (k := k) (by rw [En.out]; exact hlt)
      obtain ⟨v, ev⟩ : ∃ v, L.getD k 0 = v := ⟨_, rfl⟩
      rw [ev] at hcell hd
      clear ev
      have hkI : (k : Int) < n := by omega
      rcases hv : weightB v with _ | _
      · have Hv := Lib.hid hv
        have HR : Hid (L.all weightB = false) := Lib.hid (by rw [HK.out, hd, hv]; rfl)
        clear hv hd HK
        go_wp2_with fail
        refine (rweightB_is Hv.out _).mono ?_; rintro e w1 ⟨rfl, rfl⟩
        go_wp2_with fail
        go_ret
        exact ⟨ret_bool HR.out.symm, rfl⟩
      · have Hv := Lib.hid hv
        have HR : Hid (L.all weightB = (L.drop (k + 1)).all weightB) := Lib.hid (by rw [HK.out, hd, hv]; simp)
        clear hv hd HK
        go_wp2_with fail
        refine (rweightB_is Hv.out _).mono ?_; rintro e w1 ⟨rfl, rfl⟩
        go_wp2_with fail
        go_round
        case rel => exact ⟨k + 1, by omega, by go_num, HR⟩
        case measure => simp [intOf]; omega
    · have HR : Hid (L.all weightB = true) := Lib.hid (by rw [HK.out, List.drop_eq_nil_of_le (by rw [En.out]; omega)]; rfl)
      clear HK
      go_wp2_with fail
      go_ret
      exact ⟨ret_bool HR.out.symm, rfl⟩
theorem weights_cases (L : List Int) : ((L.length = 0 ∨ 81 < L.length) ∧ weightsC L = 9) ∨ ((1 ≤ L.length ∧ L.length ≤ 81) ∧ L.all weightB = true ∧ weightsC L = 0) ∨ ((1 ≤ L.length ∧ L.length ≤ 81) ∧ L.all weightB = false ∧ weightsC L = 10) := by
  unfold weightsC
  by_cases h : L.length = 0 ∨ 81 < L.length
  · left; exact ⟨h, if_pos h⟩
  · right
    rw [if_neg h]
    rcases ha : L.all weightB with _ | _
    · right; exact ⟨by omega, rfl, by simp⟩
    · left; exact ⟨by omega, rfl, by simp⟩
theorem rareW_is {L : List Int} {b : Bool} (hb : L.all weightB = b) (a : Option Addr) (cap : Nat) (w : World) (hs : SliceIs w a L) (hl : L.length ≤ 9223372036854775807) : Calls Try.prog 26 #[.slice a L.length cap] w fun e w' => e = .returned (.bool b) ∧ w = w' := by
  rw [← hb]; exact rareW_any L a cap w hs hl
theorem rweights_any (L : List Int) (a : Option Addr) (cap : Nat) (w : World) (hs : SliceIs w a L) (hl : L.length ≤ 9223372036854775807) : Calls Try.prog 22 #[.slice a L.length cap] w (SamePost (weightsC L) w) := by
  have hs' := Lib.hid hs
  clear hs
  rcases weights_cases L with ⟨h, hc⟩ | ⟨h, ha, hc⟩ | ⟨h, ha, hc⟩
  · have HC := Lib.hid hc
    obtain ⟨n, en⟩ : ∃ n, L.length = n := ⟨_, rfl⟩
    rw [en] at h ⊢
    clear en hc hl
    go_enter Try.func22, Try.ntmps22
    rcases h with rfl | h
    all_goals
      go_wp2_with fail
      go_ret
      exact ⟨ret_int HC.out.symm, rfl⟩
  all_goals
    have HC := Lib.hid hc
    have HA := Lib.hid ha
    have hl' := Lib.hid hl
    have hn0 : ((L.length : Int) == 0) = false := by simp; intro e; rw [e] at h; simp at h
    have hn1 : ¬ (81 : Int) < L.length := by omega
    clear ha hc hl
    go_enter Try.func22, Try.ntmps22
    go_wp2_with fail
    refine (rareW_is HA.out _ _ _ hs'.out hl'.out).mono ?_; rintro e w1 ⟨rfl, rfl⟩
    go_wp2_with fail
    go_ret
    exact ⟨ret_int HC.out.symm, rfl⟩
theorem rweights_is {L : List Int} {c : Int} (hc : weightsC L = c) (a : Option Addr) (cap : Nat) (w : World) (hs : SliceIs w a L) (hl : L.length ≤ 9223372036854775807) : Calls Try.prog 22 #[.slice a L.length cap] w fun e w' => e = .returned (.int .i64 c) ∧ w = w' := by
  have := rweights_any L a cap w hs hl
  unfold SamePost at this
  rw [hc] at this; exact this
/-- what Bounds leaves -/
def BoundsPost (L : List Int) (lo hi : Int) (w : World) (e : Ending) (w' : World) : Prop := e = .returned (.tuple #[.int .i64 (boundsA L lo hi), .int .i64 (boundsZ L lo hi), .bool (boundsB L lo hi)]) ∧ Below w.heap.size w w'
theorem hret_iib {a b c d : Int} {e f : Bool} (h : a = b ∧ c = d ∧ e = f) : Ending.returned (.tuple #[.int .i64 a, .int .i64 c, .bool e]) = .returned (.tuple #[.int .i64 b, .int .i64 d, .bool f]) := by rw [h.1, h.2.1, h.2.2]
theorem bounds_no {L : List Int} {lo hi : Int} (h : boundsB L lo hi = false) : boundsA L lo hi = 0 ∧ boundsZ L lo hi = 0 := by unfold boundsA boundsZ; rw [h]; simp
theorem bounds_yes {L : List Int} {lo hi : Int} (h : boundsB L lo hi = true) : boundsA L lo hi = lowN L lo hi ∧ boundsZ L lo hi = highN L lo hi := by unfold boundsA boundsZ; rw [h]; simp
theorem bounds_range {L : List Int} {lo hi : Int} (h : rangeB L lo hi = false) : boundsB L lo hi = false := by unfold boundsB; simp [h]
theorem hsum_take {f : Int → Int} {L : List Int} {k : Nat} (hk : k < L.length) : ((L.take (k + 1)).map f).sum = ((L.take k).map f).sum + f (L.getD k 0) := by
  rw [List.take_succ_eq_append_getElem hk, List.map_append, List.sum_append, List.getD_eq_getElem?_getD, List.getElem?_eq_getElem hk]; simp
theorem all_at {L : List Int} (h : L.all weightB = true) {k : Nat} (hk : k < L.length) : -32767 ≤ L.getD k 0 ∧ L.getD k 0 ≤ 32767 := by
  rw [List.all_eq_true] at h
  have := h (L.getD k 0) (by rw [List.getD_eq_getElem?_getD, List.getElem?_eq_getElem hk]; exact List.getElem_mem _)
  exact weightB_t.1 this
/-- a weight times a number that is permitted -/
theorem prod_w {v x : Int} (hv : -32767 ≤ v ∧ v ≤ 32767) (hx : -68719476736 ≤ x ∧ x ≤ 68719476736) : -2251799813685248 ≤ v * x ∧ v * x ≤ 2251799813685248 := by
  have e : ∀ a b : Int, 0 ≤ a → a ≤ 32767 → 0 ≤ b → b ≤ 68719476736 → 0 ≤ a * b ∧ a * b ≤ 2251799813685248 := fun a b a0 a1 b0 b1 => by
    have h1 := Int.mul_nonneg a0 b0
    have h2 : a * b ≤ 32767 * 68719476736 := Int.mul_le_mul a1 b1 b0 (by omega)
    omega
  rcases Int.lt_or_le v 0 with g | g <;> rcases Int.lt_or_le x 0 with g2 | g2
  · have := e (-v) (-x) (by omega) (by omega) (by omega) (by omega)
    rw [Int.neg_mul_neg] at this; omega
  · have := e (-v) x (by omega) (by omega) (by omega) (by omega)
    rw [Int.neg_mul] at this; omega
  · have := e v (-x) (by omega) (by omega) (by omega) (by omega)
    rw [Int.mul_neg] at this; omega
  · have := e v x (by omega) (by omega) (by omega) (by omega)
    omega
/-- where the loop over the weights stands -/
def SumsAt (L : List Int) (lo hi A B : Int) (k : Nat) : Prop := A = ((L.take k).map (lowT lo hi)).sum ∧ B = ((L.take k).map (highT lo hi)).sum
set_option maxHeartbeats 4000000 in
theorem rbounds_in (L : List Int) (lo hi : Int) (a : Option Addr) (cap : Nat) (w : World) (hs : SliceIs w a L) (hl : 1 ≤ L.length ∧ L.length ≤ 81) (ha : L.all weightB = true) (hc : weightsC L = 0) (h1 : lo ≤ hi) (h2 : -68719476736 ≤ lo) (h3 : hi ≤ 68719476736) :
    Calls Try.prog 20 #[.slice a L.length cap, .int .i64 lo, .int .i64 hi] w (BoundsPost L lo hi w) := by
  have hr : rangeB L lo hi = true := by unfold rangeB; simp [hc, h1, h2, h3]
  have HB : Hid (boundsB L lo hi = (accB (lowN L lo hi) && accB (highN L lo hi))) := Lib.hid (by unfold boundsB; simp [hr])
  have hs' := Lib.hid hs
  have HA := Lib.hid ha
  have HC := Lib.hid hc
  have HL := Lib.hid (show L.length ≤ 9223372036854775807 by omega)
  clear hs ha hc hr
  go_enter Try.func20, Try.ntmps20
  go_wp2_with fail
  refine (rweights_is HC.out _ _ _ hs'.out HL.out).mono ?_; rintro e w1 ⟨rfl, rfl⟩
  go_wp2_with fail
  go_loopw [9, 10, 11] (fun x y i wr => ∃ (k : Nat) (A B : Int), k ≤ L.length ∧ i = .int .i64 k ∧ x = .int .i64 A ∧ y = .int .i64 B ∧ (-(2251799813685248 * (k : Int)) ≤ A ∧ A ≤ 2251799813685248 * k) ∧ (-(2251799813685248 * (k : Int)) ≤ B ∧ B ≤ 2251799813685248 * k) ∧ Hid (SumsAt L lo hi A B k) ∧ ∃ n, wr = w.drewN n) (fun _ _ i _ => L.length - (intOf i).toNat)
  case atStart => exact ⟨0, 0, 0, by omega, rfl, rfl, rfl, by omega, by omega, Lib.hid ⟨by simp, by simp⟩, 0, rfl⟩
  case round =>
    obtain ⟨k, A, B, hk, rfl, rfl, rfl, bA, bB, HS, nd, rfl⟩ := hrel
    by_cases hlt : k < L.length
    · obtain ⟨b, off, rfl, hcell⟩ := hs'.out k hlt
      have hv := all_at HA.out hlt
      have e1 := hsum_take (f := lowT lo hi) hlt
      have e2 := hsum_take (f := highT lo hi) hlt
      obtain ⟨v, ev⟩ : ∃ v, L.getD k 0 = v := ⟨_, rfl⟩
      rw [ev] at hcell hv e1 e2
      clear ev
      obtain ⟨X, eX⟩ : ∃ X, v * lo = X := ⟨_, rfl⟩
      obtain ⟨Y, eY⟩ : ∃ Y, v * hi = Y := ⟨_, rfl⟩
      have bX := prod_w hv (x := lo) (by omega)
      have bY := prod_w hv (x := hi) (by omega)
      rw [eX] at bX
      rw [eY] at bY
      have HS2 : Hid (SumsAt L lo hi (A + min X Y) (B + max X Y) (k + 1)) := Lib.hid (by
        unfold SumsAt
        rw [e1, e2, ← HS.out.1, ← HS.out.2]
        unfold lowT highT
        rw [eX, eY]; exact ⟨rfl, rfl⟩)
      have t1 : IntKind.i64.wrap X = X := IntWalk.i64_in _ (by omega)
      have t2 : IntKind.i64.wrap Y = Y := IntWalk.i64_in _ (by omega)
      have hkI : (k : Int) < L.length := by omega
      clear e1 e2 HS
      go_wp2_with fail
      go_quiet (fail)
      clear t1 t2 eX eY
      go_wp2_with fail
      go_roundw
      case rel => exact ⟨k + 1, A + min X Y, B + max X Y, by omega, by go_num, rfl, rfl, by omega, by omega, HS2, _, rfl⟩
      case measure => simp [intOf]; omega
    · obtain rfl : k = L.length := by omega
      have e1 : lowN L lo hi = A := by have := HS.out.1; rw [List.take_length] at this; exact this.symm
      have e2 : highN L lo hi = B := by have := HS.out.2; rw [List.take_length] at this; exact this.symm
      rw [e1, e2] at HB
      have E1 := Lib.hid e1
      have E2 := Lib.hid e2
      clear e1 e2 HS
      rcases hA : accB A with _ | _
      · have GA := Lib.hid hA
        have HN : Hid (boundsB L lo hi = false) := Lib.hid (by rw [HB.out, hA]; rfl)
        clear hA
        go_wp2_with fail
        refine (racc_is GA.out _).mono ?_; rintro e w1 ⟨rfl, rfl⟩
        go_wp2_with fail
        go_returns
        exact ⟨hret_iib ⟨(bounds_no HN.out).1.symm, (bounds_no HN.out).2.symm, HN.out.symm⟩, bdrewN (bref _) _⟩
      · rcases hB : accB B with _ | _
        · have GA := Lib.hid hA
          have GB := Lib.hid hB
          have HN : Hid (boundsB L lo hi = false) := Lib.hid (by rw [HB.out, hA, hB]; rfl)
          clear hA hB
          go_wp2_with fail
          refine (racc_is GA.out _).mono ?_; rintro e w1 ⟨rfl, rfl⟩
          go_wp2_with fail
          refine (racc_is GB.out _).mono ?_; rintro e w1 ⟨rfl, rfl⟩
          go_wp2_with fail
          go_returns
          exact ⟨hret_iib ⟨(bounds_no HN.out).1.symm, (bounds_no HN.out).2.symm, HN.out.symm⟩, bdrewN (bref _) _⟩
        · have GA := Lib.hid hA
          have GB := Lib.hid hB
          have HY : Hid (boundsB L lo hi = true) := Lib.hid (by rw [HB.out, hA, hB]; rfl)
          clear hA hB
          go_wp2_with fail
          refine (racc_is GA.out _).mono ?_; rintro e w1 ⟨rfl, rfl⟩
          go_wp2_with fail
          refine (racc_is GB.out _).mono ?_; rintro e w1 ⟨rfl, rfl⟩
          go_wp2_with fail
          go_returns
          refine ⟨hret_iib ⟨?_, ?_, HY.out.symm⟩, bdrewN (bref _) _⟩
          · rw [(bounds_yes HY.out).1, E1.out]
          · rw [(bounds_yes HY.out).2, E2.out]
theorem rbounds_any (L : List Int) (lo hi : Int) (a : Option Addr) (cap : Nat) (w : World) (hs : SliceIs w a L) (hl : L.length ≤ 9223372036854775807) :
    Calls Try.prog 20 #[.slice a L.length cap, .int .i64 lo, .int .i64 hi] w (BoundsPost L lo hi w) := by
  by_cases h : weightsC L = 0 ∧ lo ≤ hi ∧ -68719476736 ≤ lo ∧ hi ≤ 68719476736
  · obtain ⟨h0, h1, h2, h3⟩ := h
    rcases weights_cases L with ⟨_, hc⟩ | ⟨hn, ha, hc⟩ | ⟨_, _, hc⟩
    · omega
    · exact rbounds_in L lo hi a cap w hs hn ha hc h1 h2 h3
    · omega
  · have hr : rangeB L lo hi = false := by unfold rangeB; simpa using h
    have HN := Lib.hid (bounds_range hr)
    obtain ⟨c, ec⟩ : ∃ c, weightsC L = c := ⟨_, rfl⟩
    have EC := Lib.hid ec
    have hs' := Lib.hid hs
    have HL := Lib.hid hl
    have h' : ¬ c = 0 ∨ (c = 0 ∧ hi < lo) ∨ (c = 0 ∧ lo ≤ hi ∧ lo < -68719476736) ∨ (c = 0 ∧ lo ≤ hi ∧ -68719476736 ≤ lo ∧ 68719476736 < hi) := by omega
    clear ec hr h hs hl
    have hc : (¬ c = 0 ∧ (c == 0) = false) ∨ (c = 0) := by
      by_cases g : c = 0
      · right; exact g
      · left; exact ⟨g, by simpa using g⟩
    go_enter Try.func20, Try.ntmps20
    go_wp2_with fail
    refine (rweights_is EC.out _ _ _ hs'.out HL.out).mono ?_; rintro e w1 ⟨rfl, rfl⟩
    rcases h' with g | ⟨rfl, g⟩ | ⟨rfl, g, g2⟩ | ⟨rfl, g, g2, g3⟩
    all_goals
      clear hc
      (try (have g9 : (c == 0) = false := by simpa using g))
      go_wp2_with fail
      go_returns
      exact ⟨hret_iib ⟨(bounds_no HN.out).1.symm, (bounds_no HN.out).2.symm, HN.out.symm⟩, bref _⟩
end Go.Proofs.Ytngaocfokdlhaaa
