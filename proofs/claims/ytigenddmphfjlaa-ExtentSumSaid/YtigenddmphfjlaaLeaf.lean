/- The leaf functions of package extent, of its reference and of the generator, as contracts: each returns the stated number and leaves the world as it is. -/
import Derived.Test.YtigenddmphfjlaaRows
import Derived.Test.YtigenddmphfjlaaPlain
import Derived.WalkKit
import Derived.ProofKit
import Derived.OpenShut
import Derived.IntWalk
import Derived.Lib.Hide
namespace Go.Proofs.Ytigenddmphfjlaa
open Go.ChangeShapes Go.WideShapes Go.ChangeAt Go.RowKit
set_option linter.unusedVariables false

theorem ret_int {k : IntKind} {a b : Int} (h : a = b) : Ending.returned (.int k a) = .returned (.int k b) := by rw [h]

theorem wf_bd {a : Int} (h : (Lit.int .i64 a).wf = true) : -9223372036854775808 ≤ a ∧ a ≤ 9223372036854775807 := by
  have h1 : IntKind.i64.min ≤ a ∧ a ≤ 9223372036854775807 := by simpa [Lit.wf, IntKind.signed, IntKind.bits] using h
  exact h1

theorem wrap_id (n : Int) (h0 : -9223372036854775808 ≤ n) (h1 : n ≤ 9223372036854775807) : wrap64 n = n := by
  unfold wrap64; omega

theorem ret_ib {a b : Int} {c d : Bool} (h : a = b ∧ c = d) : Ending.returned (.tuple #[.int .i64 a, .bool c]) = .returned (.tuple #[.int .i64 b, .bool d]) := by rw [h.1, h.2]

theorem mod_any (v n : Int) (w : World) (h0 : 0 < n) (h1 : n ≤ 9223372036854775807) (h2 : -9223372036854775808 ≤ v) (h3 : v ≤ 9223372036854775807) :
    Calls Try.prog 12 #[.int .i64 v, .int .i64 n] w fun e w' => e = .returned (.int .i64 (v % n)) ∧ w = w' := by
  have hb := tmod_bd v n h0
  by_cases h : v.tmod n < 0
  · have H := Lib.hid (emod_of_neg v n h0 h)
    go_enter Try.func12, Try.ntmps12
    go_wp2
    go_ret
    exact ⟨ret_int H.out, rfl⟩
  · have H := Lib.hid (emod_of_pos v n h0 (by omega))
    go_enter Try.func12, Try.ntmps12
    go_wp2
    go_ret
    exact ⟨ret_int H.out, rfl⟩

/-- what a checked product leaves -/
def MulPost (a b l : Int) (w : World) (e : Ending) (w' : World) : Prop := e = .returned (.tuple #[.int .i64 (mulN a b l), .bool (mulB a b l)]) ∧ w = w'

theorem mul_any (a b l : Int) (w : World) (a0 : -9223372036854775808 ≤ a) (a1 : a ≤ 9223372036854775807) (b0 : -9223372036854775808 ≤ b) (b1 : b ≤ 9223372036854775807) (l0 : -9223372036854775808 ≤ l) (l1 : l ≤ 9223372036854775807) :
    Calls Try.prog 9 #[.int .i64 a, .int .i64 b, .int .i64 l] w (MulPost a b l w) := by
  go_enter Try.func9, Try.ntmps9
  go_wp2
  all_goals
    go_ret2
    refine ⟨ret_ib ?_, rfl⟩
    first
      | exact mul_no (by omega)
      | (have h := mul_fits (a := a) (b := b) (l := l) (by omega) (by omega) (by omega) l1 (by omega)
         show wrap64 (a * b) = _ ∧ _
         rw [wrap_id _ (by omega) (by omega)]
         exact mul_ok (by omega) (by omega) (by omega) (by omega))
theorem rmul_any (a b l : Int) (w : World) (a0 : -9223372036854775808 ≤ a) (a1 : a ≤ 9223372036854775807) (b0 : -9223372036854775808 ≤ b) (b1 : b ≤ 9223372036854775807) (l0 : -9223372036854775808 ≤ l) (l1 : l ≤ 9223372036854775807) :
    Calls Try.prog 10 #[.int .i64 a, .int .i64 b, .int .i64 l] w (MulPost a b l w) := by
  go_enter Try.func10, Try.ntmps10
  go_wp2
  all_goals
    go_ret2
    refine ⟨ret_ib ?_, rfl⟩
    first
      | exact mul_no (by omega)
      | (have h := mul_fits (a := a) (b := b) (l := l) (by omega) (by omega) (by omega) l1 (by omega)
         show wrap64 (a * b) = _ ∧ _
         rw [wrap_id _ (by omega) (by omega)]
         exact mul_ok (by omega) (by omega) (by omega) (by omega))
/-- what a rounded quotient leaves -/
def CeilPost (a b : Int) (w : World) (e : Ending) (w' : World) : Prop := e = .returned (.int .i64 (ceilN a b)) ∧ w = w'
theorem ceil_any (a b : Int) (w : World) (a0 : -9223372036854775808 ≤ a) (a1 : a ≤ 9223372036854775807) (b0 : -9223372036854775808 ≤ b) (b1 : b ≤ 9223372036854775807) :
    Calls Try.prog 17 #[.int .i64 a, .int .i64 b] w (CeilPost a b w) := by
  have H := ceilN_bd a b a1
  go_enter Try.func17, Try.ntmps17
  go_wp2
  all_goals
    go_ret
    refine ⟨ret_int ?_, rfl⟩
    first
      | exact ceil_no (by omega)
      | exact ceil_at (by omega) (by omega) (by omega)
      | (have h := ceil_up (a := a) (b := b) (by omega) (by omega) (by omega)
         show wrap64 (a / b + 1) = _
         rw [wrap_id _ (by omega) (by omega)]; exact h)
theorem rceil_any (a b : Int) (w : World) (a0 : -9223372036854775808 ≤ a) (a1 : a ≤ 9223372036854775807) (b0 : -9223372036854775808 ≤ b) (b1 : b ≤ 9223372036854775807) :
    Calls Try.prog 18 #[.int .i64 a, .int .i64 b] w (CeilPost a b w) := by
  have H := ceilN_bd a b a1
  go_enter Try.func18, Try.ntmps18
  go_wp2
  all_goals
    go_ret
    refine ⟨ret_int ?_, rfl⟩
    first
      | exact ceil_no (by omega)
      | exact ceil_at (by omega) (by omega) (by omega)
      | (have h := ceil_up (a := a) (b := b) (by omega) (by omega) (by omega)
         show wrap64 (a / b + 1) = _
         rw [wrap_id _ (by omega) (by omega)]; exact h)
/-- what a checked multiple leaves -/
def AlignPost (n k l : Int) (w : World) (e : Ending) (w' : World) : Prop := e = .returned (.tuple #[.int .i64 (alignN n k l), .bool (alignB n k l)]) ∧ w = w'
theorem align_any (a b l : Int) (w : World) (a0 : -9223372036854775808 ≤ a) (a1 : a ≤ 9223372036854775807) (b0 : -9223372036854775808 ≤ b) (b1 : b ≤ 9223372036854775807) (l0 : -9223372036854775808 ≤ l) (l1 : l ≤ 9223372036854775807) :
    Calls Try.prog 15 #[.int .i64 a, .int .i64 b, .int .i64 l] w (AlignPost a b l w) := by
  have H := ceilN_bd a b a1
  go_enter Try.func15, Try.ntmps15
  go_wp2_with (first
    | (go_at_call 17; refine (ceil_any _ _ _ (by omega) (by omega) (by omega) (by omega)).mono ?_; rintro e w' ⟨rfl, rfl⟩)
    | (go_at_call 9; refine (mul_any _ _ _ _ (by omega) (by omega) (by omega) (by omega) (by omega) (by omega)).mono ?_; rintro e w' ⟨rfl, rfl⟩))
  all_goals
    go_ret2
    refine ⟨ret_ib ?_, rfl⟩
    first
      | exact align_no (by omega)
      | exact align_ok (by omega) (by omega)
theorem ralign_any (a b l : Int) (w : World) (a0 : -9223372036854775808 ≤ a) (a1 : a ≤ 9223372036854775807) (b0 : -9223372036854775808 ≤ b) (b1 : b ≤ 9223372036854775807) (l0 : -9223372036854775808 ≤ l) (l1 : l ≤ 9223372036854775807) :
    Calls Try.prog 16 #[.int .i64 a, .int .i64 b, .int .i64 l] w (AlignPost a b l w) := by
  have H := ceilN_bd a b a1
  go_enter Try.func16, Try.ntmps16
  go_wp2_with (first
    | (go_at_call 18; refine (rceil_any _ _ _ (by omega) (by omega) (by omega) (by omega)).mono ?_; rintro e w' ⟨rfl, rfl⟩)
    | (go_at_call 10; refine (rmul_any _ _ _ _ (by omega) (by omega) (by omega) (by omega) (by omega) (by omega)).mono ?_; rintro e w' ⟨rfl, rfl⟩))
  all_goals
    go_ret2
    refine ⟨ret_ib ?_, rfl⟩
    first
      | exact align_no (by omega)
      | exact align_ok (by omega) (by omega)

/-- what near leaves: a new slice of four numbers -/
def NearPost (n : Int) (w : World) (e : Ending) (w' : World) : Prop :=
  e = .returned (.slice (some ⟨w.heap.size, 0, none⟩) 4 4) ∧ w.alloc (.cells #[.int .i64 n, .int .i64 (n % 100), .int .i64 (n % 4294967296), .int .i64 (-1)] 3) = w'
theorem near_any (n : Int) (w : World) (h2 : -9223372036854775808 ≤ n) (h3 : n ≤ 9223372036854775807) :
    Calls Try.prog 8 #[.int .i64 n] w (NearPost n w) := by
  go_enter Try.func8, Try.ntmps8
  go_wp2_with (go_at_call 12; refine (mod_any _ _ _ (by omega) (by omega) (by omega) (by omega)).mono ?_; rintro e w' ⟨rfl, rfl⟩)
  go_ret
  exact ⟨rfl, rfl⟩

/-- a list fits in int -/
def Fits (xs : List Int) : Prop := ∀ k, k < xs.length → -9223372036854775808 ≤ xs.getD k 0 ∧ xs.getD k 0 ≤ 9223372036854775807
/-- what a checked sum leaves -/
def SumPost (xs : List Int) (l : Int) (w : World) (e : Ending) (w' : World) : Prop := e = .returned (.tuple #[.int .i64 (sumN xs l), .bool (sumB xs l)]) ∧ w = w'
/-- a slice's cells hold a list -/
def Holds (w : World) (b off : Nat) (xs : List Int) : Prop := ∀ k, k < xs.length → w.cell? ⟨b, off + k, none⟩ = some (.int .i64 (xs.getD k 0))

theorem sum_any (xs : List Int) (b off cap : Nat) (l : Int) (w : World) (hx : Fits xs) (hc : Holds w b off xs) (hm : xs.length ≤ 9223372036854775807) (l0 : -9223372036854775808 ≤ l) (l1 : l ≤ 9223372036854775807) :
    Calls Try.prog 13 #[.slice (some ⟨b, off, none⟩) xs.length cap, .int .i64 l] w (SumPost xs l w) := by
  by_cases hl : l < 0
  · have H := Lib.hid (sum_none (sumO_neg (xs := xs) hl))
    clear hx hc
    go_enter Try.func13, Try.ntmps13
    go_wp2
    go_ret2
    exact ⟨ret_ib H.out, rfl⟩
  · have H := Lib.hid (sumO_pos (xs := xs) (l := l) (by omega))
    have hx' := Lib.hid hx
    have hc' := Lib.hid hc
    clear hx hc
    go_enter Try.func13, Try.ntmps13
    go_wp2
    go_loop [6, 13] (fun s i => ∃ (k : Nat) (t : Int), k ≤ xs.length ∧ 0 ≤ t ∧ t ≤ l ∧ i = .int .i64 k ∧ s = .int .i64 t ∧ Hid (sumO xs l = sumFrom l t (xs.drop k))) (fun _ i => xs.length - (intOf i).toNat)
    case atStart => exact ⟨0, 0, by omega, by omega, by omega, rfl, rfl, H.out⟩
    case round =>
      obtain ⟨k, t, hk, t0, t1, rfl, rfl, HT⟩ := hrel
      by_cases hlt : k < xs.length
      · obtain ⟨x0, x1⟩ := hx'.out k hlt
        have hcell := hc'.out k hlt
        have hstop := Lib.hid (sumFrom_stop xs l t k hlt)
        have hstep := Lib.hid (sumFrom_step xs l t k hlt)
        obtain ⟨x, ex⟩ : ∃ x, xs.getD k 0 = x := ⟨_, rfl⟩
        rw [ex] at x0 x1 hcell hstop hstep
        clear ex
        by_cases hn : x < 0
        · have HS := Lib.hid (sum_none (HT.out.trans (hstop.out (.inl hn))))
          go_wp2
          go_ret2
          exact ⟨ret_ib HS.out, rfl⟩
        · by_cases hm : l - t < x
          · have HS := Lib.hid (sum_none (HT.out.trans (hstop.out (.inr hm))))
            go_wp2
            go_ret2
            exact ⟨ret_ib HS.out, rfl⟩
          · have HS := Lib.hid (HT.out.trans (hstep.out (by omega)))
            go_wp2
            go_round
            case rel => exact ⟨k + 1, t + x, by omega, by omega, by omega, by go_num, rfl, HS.out⟩
            case measure => simp [intOf]; omega
      · have HS := Lib.hid (sum_some (HT.out.trans (sumFrom_end xs l t k (by omega))))
        go_wp2
        go_ret2
        exact ⟨ret_ib HS.out, rfl⟩
theorem rsum_any (xs : List Int) (b off cap : Nat) (l : Int) (w : World) (hx : Fits xs) (hc : Holds w b off xs) (hm : xs.length ≤ 9223372036854775807) (l0 : -9223372036854775808 ≤ l) (l1 : l ≤ 9223372036854775807) :
    Calls Try.prog 14 #[.slice (some ⟨b, off, none⟩) xs.length cap, .int .i64 l] w (SumPost xs l w) := by
  by_cases hl : l < 0
  · have H := Lib.hid (sum_none (sumO_neg (xs := xs) hl))
    clear hx hc
    go_enter Try.func14, Try.ntmps14
    go_wp2
    go_ret2
    exact ⟨ret_ib H.out, rfl⟩
  · have H := Lib.hid (sumO_pos (xs := xs) (l := l) (by omega))
    have hx' := Lib.hid hx
    have hc' := Lib.hid hc
    clear hx hc
    go_enter Try.func14, Try.ntmps14
    go_wp2
    go_loop [6, 7] (fun s i => ∃ (k : Nat) (t : Int), k ≤ xs.length ∧ 0 ≤ t ∧ t ≤ l ∧ i = .int .i64 k ∧ s = .int .i64 t ∧ Hid (sumO xs l = sumFrom l t (xs.drop k))) (fun _ i => xs.length - (intOf i).toNat)
    case atStart => exact ⟨0, 0, by omega, by omega, by omega, rfl, rfl, H.out⟩
    case round =>
      obtain ⟨k, t, hk, t0, t1, rfl, rfl, HT⟩ := hrel
      by_cases hlt : k < xs.length
      · obtain ⟨x0, x1⟩ := hx'.out k hlt
        have hcell := hc'.out k hlt
        have hstop := Lib.hid (sumFrom_stop xs l t k hlt)
        have hstep := Lib.hid (sumFrom_step xs l t k hlt)
        obtain ⟨x, ex⟩ : ∃ x, xs.getD k 0 = x := ⟨_, rfl⟩
        rw [ex] at x0 x1 hcell hstop hstep
        clear ex
        by_cases hn : x < 0
        · have HS := Lib.hid (sum_none (HT.out.trans (hstop.out (.inl hn))))
          go_wp2
          go_ret2
          exact ⟨ret_ib HS.out, rfl⟩
        · by_cases hm : l - t < x
          · have HS := Lib.hid (sum_none (HT.out.trans (hstop.out (.inr hm))))
            go_wp2
            go_ret2
            exact ⟨ret_ib HS.out, rfl⟩
          · have HS := Lib.hid (HT.out.trans (hstep.out (by omega)))
            go_wp2
            go_round
            case rel => exact ⟨k + 1, t + x, by omega, by omega, by omega, by go_num, rfl, HS.out⟩
            case measure => simp [intOf]; omega
      · have HS := Lib.hid (sum_some (HT.out.trans (sumFrom_end xs l t k (by omega))))
        go_wp2
        go_ret2
        exact ⟨ret_ib HS.out, rfl⟩

theorem sum2_any (x y : Int) (b : Nat) (l : Int) (w : World) (x0 : -9223372036854775808 ≤ x) (x1 : x ≤ 9223372036854775807) (y0 : -9223372036854775808 ≤ y) (y1 : y ≤ 9223372036854775807) (h0 : w.cell? ⟨b, 0, none⟩ = some (.int .i64 x)) (h1 : w.cell? ⟨b, 1, none⟩ = some (.int .i64 y)) (l0 : -9223372036854775808 ≤ l) (l1 : l ≤ 9223372036854775807) :
    Calls Try.prog 13 #[.slice (some ⟨b, 0, none⟩) 2 2, .int .i64 l] w (SumPost [x, y] l w) := by
  refine sum_any [x, y] b 0 2 l w ?_ ?_ (by simp) l0 l1
  · intro k hk
    have : k = 0 ∨ k = 1 := by simp at hk; omega
    rcases this with rfl | rfl <;> simp <;> omega
  · intro k hk
    have : k = 0 ∨ k = 1 := by simp at hk; omega
    rcases this with rfl | rfl <;> simp [h0, h1]

theorem sane_any (w : World) : Calls Try.prog 11 #[] w fun e w' => e = .returned (.bool true) ∧ Grown w w' := by
  have e1 : mulB 1099511627776 1099511627776 4611686018427387904 = false := by simp [mulB]
  have e2 : alignB 17 16 32 = true := by simp [alignB, mulB, ceilN]
  have e3 : alignN 17 16 32 = 32 := by simp [alignN, mulN, mulB, ceilN]
  have e4 : sumB [1, 2] 3 = true := by simp [sumB, sumO, sumFrom]
  have e5 : sumN [1, 2] 3 = 3 := by simp [sumN, sumO, sumFrom]
  have e6 : ceilN 7 3 = 3 := by simp [ceilN]
  go_enter Try.func11, Try.ntmps11
  go_wp2_with (first
    | (go_at_call 9; refine (mul_any _ _ _ _ (by omega) (by omega) (by omega) (by omega) (by omega) (by omega)).mono ?_; rintro e w' ⟨rfl, rfl⟩)
    | (go_at_call 15; refine (align_any _ _ _ _ (by omega) (by omega) (by omega) (by omega) (by omega) (by omega)).mono ?_; rintro e w' ⟨rfl, rfl⟩)
    | (go_at_call 17; refine (ceil_any _ _ _ (by omega) (by omega) (by omega) (by omega)).mono ?_; rintro e w' ⟨rfl, rfl⟩)
    | (go_at_call 13; refine (sum2_any 1 2 _ _ _ (by omega) (by omega) (by omega) (by omega) (by go_cell) (by go_cell) (by omega) (by omega)).mono ?_; rintro e w' ⟨rfl, rfl⟩))
  go_ret
  exact ⟨rfl, (Grown.refl _).alloc _ _⟩

/-- what the generator's remainder leaves, without saying which number it is -/
def ModPost (n : Int) (w : World) (e : Ending) (w' : World) : Prop := ∃ r : Int, 0 ≤ r ∧ r < n ∧ e = .returned (.int .i64 r) ∧ w = w'
theorem mod_ex (v n : Int) (w : World) (h0 : 0 < n) (h1 : n ≤ 9223372036854775807) (h2 : -9223372036854775808 ≤ v) (h3 : v ≤ 9223372036854775807) :
    Calls Try.prog 12 #[.int .i64 v, .int .i64 n] w (ModPost n w) :=
  (mod_any v n w h0 h1 h2 h3).mono fun _ _ ⟨he, hw⟩ => ⟨v % n, Int.emod_nonneg v (by omega), Int.emod_lt_of_pos v h0, he, hw⟩

theorem mul_q (a b l : Int) (w : World) (a0 : -9223372036854775808 ≤ a) (a1 : a ≤ 9223372036854775807) (b0 : -9223372036854775808 ≤ b) (b1 : b ≤ 9223372036854775807) (l0 : -9223372036854775808 ≤ l) (l1 : l ≤ 9223372036854775807) :
    Calls Try.prog 9 #[.int .i64 a, .int .i64 b, .int .i64 l] w fun e w' => e = .returned (.tuple #[.int .i64 (mulN a b l), .bool (mulB a b l)]) ∧ w' = w :=
  (mul_any a b l w a0 a1 b0 b1 l0 l1).mono fun _ _ h => ⟨h.1, h.2.symm⟩
theorem rmul_q (a b l : Int) (w : World) (a0 : -9223372036854775808 ≤ a) (a1 : a ≤ 9223372036854775807) (b0 : -9223372036854775808 ≤ b) (b1 : b ≤ 9223372036854775807) (l0 : -9223372036854775808 ≤ l) (l1 : l ≤ 9223372036854775807) :
    Calls Try.prog 10 #[.int .i64 a, .int .i64 b, .int .i64 l] w fun e w' => e = .returned (.tuple #[.int .i64 (mulN a b l), .bool (mulB a b l)]) ∧ w' = w :=
  (rmul_any a b l w a0 a1 b0 b1 l0 l1).mono fun _ _ h => ⟨h.1, h.2.symm⟩
theorem align_q (a b l : Int) (w : World) (a0 : -9223372036854775808 ≤ a) (a1 : a ≤ 9223372036854775807) (b0 : -9223372036854775808 ≤ b) (b1 : b ≤ 9223372036854775807) (l0 : -9223372036854775808 ≤ l) (l1 : l ≤ 9223372036854775807) :
    Calls Try.prog 15 #[.int .i64 a, .int .i64 b, .int .i64 l] w fun e w' => e = .returned (.tuple #[.int .i64 (alignN a b l), .bool (alignB a b l)]) ∧ w' = w :=
  (align_any a b l w a0 a1 b0 b1 l0 l1).mono fun _ _ h => ⟨h.1, h.2.symm⟩
theorem ralign_q (a b l : Int) (w : World) (a0 : -9223372036854775808 ≤ a) (a1 : a ≤ 9223372036854775807) (b0 : -9223372036854775808 ≤ b) (b1 : b ≤ 9223372036854775807) (l0 : -9223372036854775808 ≤ l) (l1 : l ≤ 9223372036854775807) :
    Calls Try.prog 16 #[.int .i64 a, .int .i64 b, .int .i64 l] w fun e w' => e = .returned (.tuple #[.int .i64 (alignN a b l), .bool (alignB a b l)]) ∧ w' = w :=
  (ralign_any a b l w a0 a1 b0 b1 l0 l1).mono fun _ _ h => ⟨h.1, h.2.symm⟩
theorem ceil_q (a b : Int) (w : World) (a0 : -9223372036854775808 ≤ a) (a1 : a ≤ 9223372036854775807) (b0 : -9223372036854775808 ≤ b) (b1 : b ≤ 9223372036854775807) :
    Calls Try.prog 17 #[.int .i64 a, .int .i64 b] w fun e w' => e = .returned (.int .i64 (ceilN a b)) ∧ w' = w :=
  (ceil_any a b w a0 a1 b0 b1).mono fun _ _ h => ⟨h.1, h.2.symm⟩
theorem rceil_q (a b : Int) (w : World) (a0 : -9223372036854775808 ≤ a) (a1 : a ≤ 9223372036854775807) (b0 : -9223372036854775808 ≤ b) (b1 : b ≤ 9223372036854775807) :
    Calls Try.prog 18 #[.int .i64 a, .int .i64 b] w fun e w' => e = .returned (.int .i64 (ceilN a b)) ∧ w' = w :=
  (rceil_any a b w a0 a1 b0 b1).mono fun _ _ h => ⟨h.1, h.2.symm⟩
end Go.Proofs.Ytigenddmphfjlaa
