/- Round shifts, clamped numbers, weights and the bounds of weighted sums as integers. No program is named. Shift, Clamp and Span of the reference as contracts: what each returns; they leave the world as it is. Weights and Bounds of the reference as contracts: what each returns; the world gets draws at most. The developers' package fixed as contracts: what Shift, Clamp, Weights, Bounds and Span return; nothing that lay in memory changes. -/
import Derived.Test.YtibmoibhbgbfoaaBase
import Derived.Test.YtibmoibhbgbfoaaPPlain
import Derived.Lib.MinMax
namespace Go.Proofs.Ytibmoibhbgbfoaa
set_option linter.unusedVariables false
set_option linter.unusedSimpArgs false

def accB (n : Int) : Bool := decide (-17592186044416 ≤ n ∧ n ≤ 17592186044416)
def shiftB (s : Int) : Bool := decide (0 ≤ s ∧ s ≤ 24)
theorem accB_t {n : Int} : accB n = true ↔ (-17592186044416 ≤ n ∧ n ≤ 17592186044416) := by simp [accB]
theorem accB_f {n : Int} : accB n = false ↔ ¬ (-17592186044416 ≤ n ∧ n ≤ 17592186044416) := by rw [← accB_t]; simp
theorem shiftB_t {n : Int} : shiftB n = true ↔ (0 ≤ n ∧ n ≤ 24) := by simp [shiftB]
theorem shiftB_f {n : Int} : shiftB n = false ↔ ¬ (0 ≤ n ∧ n ≤ 24) := by rw [← shiftB_t]; simp
/-- a round shift -/
def shiftN (a s : Int) : Int := if accB a = true ∧ shiftB s = true then (if s = 0 then a else (a + 2 ^ (s - 1).toNat) / 2 ^ s.toNat) else 0
def clampN (v m : Int) : Int := if v < 0 ∨ m < 0 then 0 else if m < v then m else v
def weightB (n : Int) : Bool := decide (-32767 ≤ n ∧ n ≤ 32767)
theorem weightB_t {n : Int} : weightB n = true ↔ (-32767 ≤ n ∧ n ≤ 32767) := by simp [weightB]
theorem weightB_f {n : Int} : weightB n = false ↔ ¬ (-32767 ≤ n ∧ n ≤ 32767) := by rw [← weightB_t]; simp
def weightsC (L : List Int) : Int := if L.length = 0 ∨ 81 < L.length then 9 else if L.all weightB = true then 0 else 10
/-- the least and the greatest of two products -/
def lowT (lo hi w : Int) : Int := min (w * lo) (w * hi)
def highT (lo hi w : Int) : Int := max (w * lo) (w * hi)
def lowN (L : List Int) (lo hi : Int) : Int := (L.map (lowT lo hi)).sum
def highN (L : List Int) (lo hi : Int) : Int := (L.map (highT lo hi)).sum
def rangeB (L : List Int) (lo hi : Int) : Bool := decide (weightsC L = 0 ∧ lo ≤ hi ∧ -68719476736 ≤ lo ∧ hi ≤ 68719476736)
def boundsB (L : List Int) (lo hi : Int) : Bool := decide (rangeB L lo hi = true ∧ accB (lowN L lo hi) = true ∧ accB (highN L lo hi) = true)
def boundsA (L : List Int) (lo hi : Int) : Int := if boundsB L lo hi = true then lowN L lo hi else 0
def boundsZ (L : List Int) (lo hi : Int) : Int := if boundsB L lo hi = true then highN L lo hi else 0

theorem pow_s {s : Int} (h : 0 ≤ s ∧ s ≤ 24) : (1 : Int) ≤ 2 ^ s.toNat ∧ (2 : Int) ^ s.toNat ≤ 16777216 := by
  have h1 : 2 ^ s.toNat ≤ 2 ^ 24 := Nat.pow_le_pow_right (by decide) (by omega)
  have h2 : (2 : Nat) ^ 24 = 16777216 := by decide
  have h3 := Nat.two_pow_pos s.toNat
  have c : ((2 : Int) ^ s.toNat) = ((2 ^ s.toNat : Nat) : Int) := by simp
  rw [c]; omega
theorem shift_no {a s : Int} (h : accB a = false ∨ shiftB s = false) : shiftN a s = 0 := by
  unfold shiftN
  rw [if_neg]
  rintro ⟨h1, h2⟩
  rcases h with h | h <;> simp_all
theorem shift_zero {a : Int} (h : accB a = true) : shiftN a 0 = a := by
  unfold shiftN
  rw [if_pos ⟨h, by simp [shiftB]⟩, if_pos rfl]
theorem shift_some {a s : Int} (h : accB a = true) (hs : shiftB s = true) (h0 : s ≠ 0) : shiftN a s = (a + 2 ^ (s - 1).toNat) / 2 ^ s.toNat := by
  unfold shiftN
  rw [if_pos ⟨h, hs⟩, if_neg h0]
/-- Go's quotient, put right: the floor -/
theorem quo_fix {n d : Int} (hd : 0 < d) : (n.tdiv d * d > n → n / d = n.tdiv d - 1) ∧ (¬ n.tdiv d * d > n → n / d = n.tdiv d) := by
  have h1 := Int.tmod_add_mul_tdiv n d
  have h2 : -d < n.tmod d ∧ n.tmod d < d := by
    have := Int.tmod_lt_of_pos n hd
    have := Int.lt_tmod_of_pos n hd
    exact ⟨by omega, by omega⟩
  have c : d * n.tdiv d = n.tdiv d * d := Int.mul_comm _ _
  rw [c] at h1
  constructor
  · intro h
    have e : n / d = n.tdiv d - 1 ∧ n % d = n.tmod d + d := (Int.ediv_emod_unique hd).2 ⟨by rw [Int.mul_sub, c]; omega, by omega, by omega⟩
    exact e.1
  · intro h
    have e : n / d = n.tdiv d ∧ n % d = n.tmod d := (Int.ediv_emod_unique hd).2 ⟨by rw [c]; omega, by omega, by omega⟩
    exact e.1
theorem shift_bd (a s : Int) : -17592186044416 ≤ shiftN a s ∧ shiftN a s ≤ 17592186044416 := by
  rcases h1 : accB a with _ | _
  · rw [shift_no (.inl h1)]; omega
  · rcases h2 : shiftB s with _ | _
    · rw [shift_no (.inr h2)]; omega
    · by_cases h0 : s = 0
      · subst h0; rw [shift_zero h1]; exact accB_t.1 h1
      · rw [shift_some h1 h2 h0]
        have ha := accB_t.1 h1
        have hs := shiftB_t.1 h2
        have hp := pow_s (s := s - 1) (by omega)
        have e : (2 : Int) ^ s.toNat = 2 * 2 ^ (s - 1).toNat := by
          rw [show s.toNat = (s - 1).toNat + 1 by omega, Int.pow_succ]; omega
        rw [e]
        generalize (2 : Int) ^ (s - 1).toNat = H at *
        refine ⟨(Int.le_ediv_iff_mul_le (by omega)).2 ?_, ?_⟩
        · have : -17592186044416 * (2 * H) ≤ -17592186044416 * 1 := by omega
          omega
        · have : (a + H) / (2 * H) < 17592186044416 + 1 := (Int.ediv_lt_iff_lt_mul (by omega)).2 (by omega)
          omega
open Go.ChangeShapes Go.WideShapes Go.ChangeAt Go.RowKit
set_option linter.unusedVariables false
set_option linter.unusedSimpArgs false

theorem racc_any (n : Int) (w : World) : Calls Try.prog 57 #[.int .i64 n] w fun e w' => e = .returned (.bool (accB n)) ∧ w = w' := by
  go_enter Try.func57, Try.ntmps57
  go_wp2
  all_goals
    go_ret
    refine ⟨ret_bool ?_, rfl⟩
    rw [Bool.eq_iff_iff, accB_t]; simp <;> omega
theorem rshiftB_any (n : Int) (w : World) : Calls Try.prog 31 #[.int .i64 n] w fun e w' => e = .returned (.bool (shiftB n)) ∧ w = w' := by
  go_enter Try.func31, Try.ntmps31
  go_wp2
  all_goals
    go_ret
    refine ⟨ret_bool ?_, rfl⟩
    rw [Bool.eq_iff_iff, shiftB_t]; simp <;> omega
theorem rweightB_any (n : Int) (w : World) : Calls Try.prog 55 #[.int .i64 n] w fun e w' => e = .returned (.bool (weightB n)) ∧ w = w' := by
  go_enter Try.func55, Try.ntmps55
  go_wp2
  all_goals
    go_ret
    refine ⟨ret_bool ?_, rfl⟩
    rw [Bool.eq_iff_iff, weightB_t]; simp <;> omega
theorem racc_is {n : Int} {b : Bool} (h : accB n = b) (w : World) : Calls Try.prog 57 #[.int .i64 n] w fun e w' => e = .returned (.bool b) ∧ w = w' := by rw [← h]; exact racc_any n w
theorem rshiftB_is {n : Int} {b : Bool} (h : shiftB n = b) (w : World) : Calls Try.prog 31 #[.int .i64 n] w fun e w' => e = .returned (.bool b) ∧ w = w' := by rw [← h]; exact rshiftB_any n w
theorem rweightB_is {n : Int} {b : Bool} (h : weightB n = b) (w : World) : Calls Try.prog 55 #[.int .i64 n] w fun e w' => e = .returned (.bool b) ∧ w = w' := by rw [← h]; exact rweightB_any n w
/-- a number came back, and nothing else -/
def SamePost (n : Int) (w : World) (e : Ending) (w' : World) : Prop := e = .returned (.int .i64 n) ∧ w = w'
theorem rclamp_any (v m : Int) (w : World) : Calls Try.prog 50 #[.int .i64 v, .int .i64 m] w (SamePost (clampN v m) w) := by
  go_enter Try.func50, Try.ntmps50
  go_wp2_with fail
  all_goals
    go_ret
    refine ⟨ret_int ?_, rfl⟩
    unfold clampN
    (try simp at *)
    (repeat' split) <;> omega
/-- the walk of Shift where it is not 0 -/
theorem rshift_walk (a s n d q t : Int) (w : World) (ha : Hid (accB a = true)) (hs : Hid (shiftB s = true)) (h0 : 1 ≤ s) (h1 : s ≤ 24) (a0 : -17592186044416 ≤ a ∧ a ≤ 17592186044416) (z0 : (s == 0) = false) (H : Int) (eH : wrap64 (2 ^ (s.toNat - 1)) = H) (hH : 1 ≤ H ∧ H ≤ 8388608) (eD : wrap64 (2 ^ s.toNat) = d) (hd : 1 ≤ d) (hd0 : ¬ d = 0)
    (en : a + H = n) (eq : n.tdiv d = q) (et : q * d = t) (hq : -17592194433024 ≤ q ∧ q ≤ 17592194433024) (ht : -35184372088832 ≤ t ∧ t ≤ 35184372088832) (hn : Hid (shiftN a s = if n < t then q - 1 else q)) :
    Calls Try.prog 51 #[.int .i64 a, .int .i64 s] w (SamePost (shiftN a s) w) := by
  by_cases g : n < t
  · have hr := Lib.hid (hn.out.trans (if_pos g))
    go_enter Try.func51, Try.ntmps51
    go_wp2_with fail
    refine (racc_is ha.out _).mono ?_; rintro e w1 ⟨rfl, rfl⟩
    go_wp2_with fail
    refine (rshiftB_is hs.out _).mono ?_; rintro e w1 ⟨rfl, rfl⟩
    go_wp2_with fail
    go_ret
    exact ⟨ret_int hr.out.symm, rfl⟩
  · have hr := Lib.hid (hn.out.trans (if_neg g))
    go_enter Try.func51, Try.ntmps51
    go_wp2_with fail
    refine (racc_is ha.out _).mono ?_; rintro e w1 ⟨rfl, rfl⟩
    go_wp2_with fail
    refine (rshiftB_is hs.out _).mono ?_; rintro e w1 ⟨rfl, rfl⟩
    go_wp2_with fail
    go_ret
    exact ⟨ret_int hr.out.symm, rfl⟩
theorem wrap_in {n : Int} (h0 : -9223372036854775808 ≤ n) (h1 : n ≤ 9223372036854775807) : wrap64 n = n := by unfold wrap64; omega
/-- a quotient times its divisor is near the number -/
theorem quo_bd {n d : Int} (hd : 1 ≤ d) (B : Int) (hn : -B ≤ n ∧ n ≤ B) : (-B ≤ n.tdiv d ∧ n.tdiv d ≤ B) ∧ (-B ≤ n.tdiv d * d ∧ n.tdiv d * d ≤ B) := by
  have h1 := Int.tmod_add_mul_tdiv n d
  have c : d * n.tdiv d = n.tdiv d * d := Int.mul_comm _ _
  rw [c] at h1
  have e : ∀ m : Int, 0 ≤ m → 0 ≤ m.tdiv d ∧ m.tdiv d ≤ m ∧ 0 ≤ m.tdiv d * d ∧ m.tdiv d * d ≤ m := fun m hm => by
    rw [Int.tdiv_eq_ediv_of_nonneg hm]
    have a1 := Int.ediv_nonneg hm (show 0 ≤ d by omega)
    exact ⟨a1, Int.ediv_le_self _ hm, Int.mul_nonneg a1 (by omega), Int.ediv_mul_le _ (by omega)⟩
  rcases Int.lt_or_le n 0 with g | g
  · have h2 := e (-n) (by omega)
    rw [Int.neg_tdiv, Int.neg_mul] at h2
    omega
  · have h2 := e n g
    omega
theorem rshift_any (a s : Int) (w : World) : Calls Try.prog 51 #[.int .i64 a, .int .i64 s] w (SamePost (shiftN a s) w) := by
  rcases ha : accB a with _ | _
  · have HA := Lib.hid ha
    have hr := Lib.hid (shift_no (a := a) (s := s) (.inl ha))
    clear ha
    go_enter Try.func51, Try.ntmps51
    go_wp2_with fail
    refine (racc_is HA.out _).mono ?_; rintro e w1 ⟨rfl, rfl⟩
    go_wp2_with fail
    go_ret
    exact ⟨ret_int hr.out.symm, rfl⟩
  · rcases hs : shiftB s with _ | _
    · have HA := Lib.hid ha
      have HS := Lib.hid hs
      have hr := Lib.hid (shift_no (a := a) (s := s) (.inr hs))
      clear ha hs
      go_enter Try.func51, Try.ntmps51
      go_wp2_with fail
      refine (racc_is HA.out _).mono ?_; rintro e w1 ⟨rfl, rfl⟩
      go_wp2_with fail
      refine (rshiftB_is HS.out _).mono ?_; rintro e w1 ⟨rfl, rfl⟩
      go_wp2_with fail
      go_ret
      exact ⟨ret_int hr.out.symm, rfl⟩
    · by_cases h0 : s = 0
      · subst h0
        have HA := Lib.hid ha
        have HS := Lib.hid hs
        have hr := Lib.hid (shift_zero ha)
        clear ha hs
        go_enter Try.func51, Try.ntmps51
        go_wp2_with fail
        refine (racc_is HA.out _).mono ?_; rintro e w1 ⟨rfl, rfl⟩
        go_wp2_with fail
        refine (rshiftB_is HS.out _).mono ?_; rintro e w1 ⟨rfl, rfl⟩
        go_wp2_with fail
        go_ret
        exact ⟨ret_int hr.out.symm, rfl⟩
      · have a0 := accB_t.1 ha
        have s0 := shiftB_t.1 hs
        have p1 := pow_s (s := s - 1) (by omega)
        have p2 := pow_s (s := s) (by omega)
        have e1 : (s - 1).toNat = s.toNat - 1 := by omega
        have ee : (2 : Int) ^ s.toNat = 2 * 2 ^ (s - 1).toNat := by
          rw [show s.toNat = (s - 1).toNat + 1 by omega, Int.pow_succ]; omega
        have hr := shift_some ha hs h0
        obtain ⟨H, eH⟩ : ∃ H : Int, 2 ^ (s - 1).toNat = H := ⟨_, rfl⟩
        obtain ⟨d, ed⟩ : ∃ d : Int, 2 ^ s.toNat = d := ⟨_, rfl⟩
        rw [eH, ed] at hr
        rw [eH, ed] at ee
        rw [eH] at p1
        rw [ed] at p2
        obtain ⟨b1, b2⟩ := quo_bd (n := a + H) (d := d) (by omega) 17592194433024 (by omega)
        have hf := quo_fix (n := a + H) (d := d) (by omega)
        refine rshift_walk a s (a + H) d ((a + H).tdiv d) _ w (Lib.hid ha) (Lib.hid hs) (by omega) (by omega) a0 (by simpa using h0) H (by rw [← e1, eH]; exact wrap_in (by omega) (by omega)) (by omega) (by rw [ed]; exact wrap_in (by omega) (by omega)) (by omega) (by omega) rfl rfl rfl b1 (by omega) (Lib.hid ?_)
        rw [hr]
        split
        · exact hf.1 (by omega)
        · exact hf.2 (by omega)
theorem rshift_is {a s n : Int} (h : shiftN a s = n) (w : World) : Calls Try.prog 51 #[.int .i64 a, .int .i64 s] w fun e w' => e = .returned (.int .i64 n) ∧ w = w' := by
  have := rshift_any a s w
  unfold SamePost at this
  rw [h] at this; exact this
/-- what Span leaves -/
def SpanPost (lo hi s : Int) (w : World) (e : Ending) (w' : World) : Prop := e = .returned (.tuple #[.int .i64 (shiftN lo s), .int .i64 (shiftN hi s)]) ∧ w = w'
open Go.ChangeShapes Go.WideShapes Go.ChangeAt Go.RowKit
set_option linter.unusedVariables false
set_option linter.unusedSimpArgs false

theorem all_drop {L : List Int} {k : Nat} (hk : k < L.length) : (L.drop k).all weightB = (weightB (L.getD k 0) && (L.drop (k + 1)).all weightB) := by
  rw [List.drop_eq_getElem_cons hk, List.all_cons, List.getD_eq_getElem?_getD, List.getElem?_eq_getElem hk]; rfl
theorem rareW_any (L : List Int) (a : Option Addr) (cap : Nat) (w : World) (hs : SliceIs w a L) (hl : L.length ≤ 9223372036854775807) : Calls Try.prog 30 #[.slice a L.length cap] w fun e w' => e = .returned (.bool (L.all weightB)) ∧ w = w' := by
  have hs' := Lib.hid hs
  have HD := Lib.hid (show L.all weightB = (L.drop 0).all weightB from rfl)
  obtain ⟨n, en⟩ : ∃ n, L.length = n := ⟨_, rfl⟩
  have En := Lib.hid en
  rw [en] at hl ⊢
  clear hs en
  go_enter Try.func30, Try.ntmps30
  go_wp2_with fail
  go_loop [3] (fun i => ∃ k : Nat, k ≤ n ∧ i = .int .i64 k ∧ Hid (L.all weightB = (L.drop k).all weightB)) (fun i => n - (intOf i).toNat)
  case atStart => exact ⟨0, by omega, rfl, HD⟩
  case round =>
    obtain ⟨k, hk, rfl, HK⟩ := hrel
    by_cases hlt : k < n
    · obtain ⟨b, off, rfl, hcell⟩ := hs'.out k (by rw [En.out]; exact hlt)
      have hd := all_drop (L := L) (k := k) (by rw [En.out]; exact hlt)
      obtain ⟨v, ev⟩ : ∃ v, L.getD k 0 = v := ⟨_, rfl⟩
      rw [ev] at hcell hd
      clear ev
      have hkI : (k : Int) < n := by omega
      rcases hv : weightB v with _ | _
      · have Hv := Lib.hid hv
        have HR : Hid (L.all weightB = false) := Lib.hid (by rw [HK.out, hd, hv]; rfl)
        clear hv hd HK
        go_wp2_with fail
        refine (rweightB_is Hv.out _).mono ?_; rintro e w1 ⟨rfl, rfl⟩
        go_wp2_with fail
        go_ret
        exact ⟨ret_bool HR.out.symm, rfl⟩
      · have Hv := Lib.hid hv
        have HR : Hid (L.all weightB = (L.drop (k + 1)).all weightB) := Lib.hid (by rw [HK.out, hd, hv]; simp)
        clear hv hd HK
        go_wp2_with fail
        refine (rweightB_is Hv.out _).mono ?_; rintro e w1 ⟨rfl, rfl⟩
        go_wp2_with fail
        go_round
        case rel => exact ⟨k + 1, by omega, by go_num, HR⟩
        case measure => simp [intOf]; omega
    · have HR : Hid (L.all weightB = true) := Lib.hid (by rw [HK.out, List.drop_eq_nil_of_le (by rw [En.out]; omega)]; rfl)
      clear HK
      go_wp2_with fail
      go_ret
      exact ⟨ret_bool HR.out.symm, rfl⟩
theorem weights_cases (L : List Int) : ((L.length = 0 ∨ 81 < L.length) ∧ weightsC L = 9) ∨ ((1 ≤ L.length ∧ L.length ≤ 81) ∧ L.all weightB = true ∧ weightsC L = 0) ∨ ((1 ≤ L.length ∧ L.length ≤ 81) ∧ L.all weightB = false ∧ weightsC L = 10) := by
  unfold weightsC
  by_cases h : L.length = 0 ∨ 81 < L.length
  · left; exact ⟨h, if_pos h⟩
  · right
    rw [if_neg h]
    rcases ha : L.all weightB with _ | _
    · right; exact ⟨by omega, rfl, by simp⟩
    · left; exact ⟨by omega, rfl, by simp⟩
theorem rareW_is {L : List Int} {b : Bool} (hb : L.all weightB = b) (a : Option Addr) (cap : Nat) (w : World) (hs : SliceIs w a L) (hl : L.length ≤ 9223372036854775807) : Calls Try.prog 30 #[.slice a L.length cap] w fun e w' => e = .returned (.bool b) ∧ w = w' := by
  rw [← hb]; exact rareW_any L a cap w hs hl
theorem rweights_any (L : List Int) (a : Option Addr) (cap : Nat) (w : World) (hs : SliceIs w a L) (hl : L.length ≤ 9223372036854775807) : Calls Try.prog 56 #[.slice a L.length cap] w (SamePost (weightsC L) w) := by
  have hs' := Lib.hid hs
  clear hs
  rcases weights_cases L with ⟨h, hc⟩ | ⟨h, ha, hc⟩ | ⟨h, ha, hc⟩
  · have HC := Lib.hid hc
    obtain ⟨n, en⟩ : ∃ n, L.length = n := ⟨_, rfl⟩
    rw [en] at h ⊢
    clear en hc hl
    go_enter Try.func56, Try.ntmps56
    rcases h with rfl | h
    all_goals
      go_wp2_with fail
      go_ret
      exact ⟨ret_int HC.out.symm, rfl⟩
  all_goals
    have HC := Lib.hid hc
    have HA := Lib.hid ha
    have hl' := Lib.hid hl
    have hn0 : ((L.length : Int) == 0) = false := by simp; intro e; rw [e] at h; simp at h
    have hn1 : ¬ (81 : Int) < L.length := by omega
    clear ha hc hl
    go_enter Try.func56, Try.ntmps56
    go_wp2_with fail
    refine (rareW_is HA.out _ _ _ hs'.out hl'.out).mono ?_; rintro e w1 ⟨rfl, rfl⟩
    go_wp2_with fail
    go_ret
    exact ⟨ret_int HC.out.symm, rfl⟩
theorem rweights_is {L : List Int} {c : Int} (hc : weightsC L = c) (a : Option Addr) (cap : Nat) (w : World) (hs : SliceIs w a L) (hl : L.length ≤ 9223372036854775807) : Calls Try.prog 56 #[.slice a L.length cap] w fun e w' => e = .returned (.int .i64 c) ∧ w = w' := by
  have := rweights_any L a cap w hs hl
  unfold SamePost at this
  rw [hc] at this; exact this
/-- what Bounds leaves -/
def BoundsPost (L : List Int) (lo hi : Int) (w : World) (e : Ending) (w' : World) : Prop := e = .returned (.tuple #[.int .i64 (boundsA L lo hi), .int .i64 (boundsZ L lo hi), .bool (boundsB L lo hi)]) ∧ Below w.heap.size w w'
theorem hret_iib {a b c d : Int} {e f : Bool} (h : a = b ∧ c = d ∧ e = f) : Ending.returned (.tuple #[.int .i64 a, .int .i64 c, .bool e]) = .returned (.tuple #[.int .i64 b, .int .i64 d, .bool f]) := by rw [h.1, h.2.1, h.2.2]
theorem bounds_no {L : List Int} {lo hi : Int} (h : boundsB L lo hi = false) : boundsA L lo hi = 0 ∧ boundsZ L lo hi = 0 := by unfold boundsA boundsZ; rw [h]; simp
theorem bounds_yes {L : List Int} {lo hi : Int} (h : boundsB L lo hi = true) : boundsA L lo hi = lowN L lo hi ∧ boundsZ L lo hi = highN L lo hi := by unfold boundsA boundsZ; rw [h]; simp
theorem bounds_range {L : List Int} {lo hi : Int} (h : rangeB L lo hi = false) : boundsB L lo hi = false := by unfold boundsB; simp [h]
theorem hsum_take {f : Int → Int} {L : List Int} {k : Nat} (hk : k < L.length) : ((L.take (k + 1)).map f).sum = ((L.take k).map f).sum + f (L.getD k 0) := by
  rw [List.take_succ_eq_append_getElem hk, List.map_append, List.sum_append, List.getD_eq_getElem?_getD, List.getElem?_eq_getElem hk]; simp
theorem all_at {L : List Int} (h : L.all weightB = true) {k : Nat} (hk : k < L.length) : -32767 ≤ L.getD k 0 ∧ L.getD k 0 ≤ 32767 := by
  rw [List.all_eq_true] at h
  have := h (L.getD k 0) (by rw [List.getD_eq_getElem?_getD, List.getElem?_eq_getElem hk]; exact List.getElem_mem _)
  exact weightB_t.1 this
/-- a weight times a number that is permitted -/
theorem prod_w {v x : Int} (hv : -32767 ≤ v ∧ v ≤ 32767) (hx : -68719476736 ≤ x ∧ x ≤ 68719476736) : -2251799813685248 ≤ v * x ∧ v * x ≤ 2251799813685248 := by
  have e : ∀ a b : Int, 0 ≤ a → a ≤ 32767 → 0 ≤ b → b ≤ 68719476736 → 0 ≤ a * b ∧ a * b ≤ 2251799813685248 := fun a b a0 a1 b0 b1 => by
    have h1 := Int.mul_nonneg a0 b0
    have h2 : a * b ≤ 32767 * 68719476736 := Int.mul_le_mul a1 b1 b0 (by omega)
    omega
  rcases Int.lt_or_le v 0 with g | g <;> rcases Int.lt_or_le x 0 with g2 | g2
  · have := e (-v) (-x) (by omega) (by omega) (by omega) (by omega)
    rw [Int.neg_mul_neg] at this; omega
  · have := e (-v) x (by omega) (by omega) (by omega) (by omega)
    rw [Int.neg_mul] at this; omega
  · have := e v (-x) (by omega) (by omega) (by omega) (by omega)
    rw [Int.mul_neg] at this; omega
  · have := e v x (by omega) (by omega) (by omega) (by omega)
    omega
/-- where the loop over the weights stands -/
def SumsAt (L : List Int) (lo hi A B : Int) (k : Nat) : Prop := A = ((L.take k).map (lowT lo hi)).sum ∧ B = ((L.take k).map (highT lo hi)).sum
set_option maxHeartbeats 4000000 in
theorem rbounds_in (L : List Int) (lo hi : Int) (a : Option Addr) (cap : Nat) (w : World) (hs : SliceIs w a L) (hl : 1 ≤ L.length ∧ L.length ≤ 81) (ha : L.all weightB = true) (hc : weightsC L = 0) (h1 : lo ≤ hi) (h2 : -68719476736 ≤ lo) (h3 : hi ≤ 68719476736) :
    Calls Try.prog 33 #[.slice a L.length cap, .int .i64 lo, .int .i64 hi] w (BoundsPost L lo hi w) := by
  have hr : rangeB L lo hi = true := by unfold rangeB; simp [hc, h1, h2, h3]
  have HB : Hid (boundsB L lo hi = (accB (lowN L lo hi) && accB (highN L lo hi))) := Lib.hid (by unfold boundsB; simp [hr])
  have hs' := Lib.hid hs
  have HA := Lib.hid ha
  have HC := Lib.hid hc
  have HL := Lib.hid (show L.length ≤ 9223372036854775807 by omega)
  clear hs ha hc hr
  go_enter Try.func33, Try.ntmps33
  go_wp2_with fail
  refine (rweights_is HC.out _ _ _ hs'.out HL.out).mono ?_; rintro e w1 ⟨rfl, rfl⟩
  go_wp2_with fail
  go_loopw [9, 10, 11] (fun x y i wr => ∃ (k : Nat) (A B : Int), k ≤ L.length ∧ i = .int .i64 k ∧ x = .int .i64 A ∧ y = .int .i64 B ∧ (-(2251799813685248 * (k : Int)) ≤ A ∧ A ≤ 2251799813685248 * k) ∧ (-(2251799813685248 * (k : Int)) ≤ B ∧ B ≤ 2251799813685248 * k) ∧ Hid (SumsAt L lo hi A B k) ∧ ∃ n, wr = w.drewN n) (fun _ _ i _ => L.length - (intOf i).toNat)
  case atStart => exact ⟨0, 0, 0, by omega, rfl, rfl, rfl, by omega, by omega, Lib.hid ⟨by simp, by simp⟩, 0, rfl⟩
  case round =>
    obtain ⟨k, A, B, hk, rfl, rfl, rfl, bA, bB, HS, nd, rfl⟩ := hrel
    by_cases hlt : k < L.length
    · obtain ⟨b, off, rfl, hcell⟩ := hs'.out k hlt
      have hv := all_at HA.out hlt
      have e1 := hsum_take (f := lowT lo hi) hlt
      have e2 := hsum_take (f := highT lo hi) hlt
      obtain ⟨v, ev⟩ : ∃ v, L.getD k 0 = v := ⟨_, rfl⟩
      rw [ev] at hcell hv e1 e2
      clear ev
      obtain ⟨X, eX⟩ : ∃ X, v * lo = X := ⟨_, rfl⟩
      obtain ⟨Y, eY⟩ : ∃ Y, v * hi = Y := ⟨_, rfl⟩
      have bX := prod_w hv (x := lo) (by omega)
      have bY := prod_w hv (x := hi) (by omega)
      rw [eX] at bX
      rw [eY] at bY
      have HS2 : Hid (SumsAt L lo hi (A + min X Y) (B + max X Y) (k + 1)) := Lib.hid (by
        unfold SumsAt
        rw [e1, e2, ← HS.out.1, ← HS.out.2]
        unfold lowT highT
        rw [eX, eY]; exact ⟨rfl, rfl⟩)
      have t1 : IntKind.i64.wrap X = X := IntWalk.i64_in _ (by omega)
      have t2 : IntKind.i64.wrap Y = Y := IntWalk.i64_in _ (by omega)
      have hkI : (k : Int) < L.length := by omega
      clear e1 e2 HS
      go_wp2_with fail
      go_quiet (fail)
      clear t1 t2 eX eY
      go_wp2_with fail
      go_roundw
      case rel => exact ⟨k + 1, A + min X Y, B + max X Y, by omega, by go_num, rfl, rfl, by omega, by omega, HS2, _, rfl⟩
      case measure => simp [intOf]; omega
    · obtain rfl : k = L.length := by omega
      have e1 : lowN L lo hi = A := by have := HS.out.1; rw [List.take_length] at this; exact this.symm
      have e2 : highN L lo hi = B := by have := HS.out.2; rw [List.take_length] at this; exact this.symm
      rw [e1, e2] at HB
      have E1 := Lib.hid e1
      have E2 := Lib.hid e2
      clear e1 e2 HS
      rcases hA : accB A with _ | _
      · have GA := Lib.hid hA
        have HN : Hid (boundsB L lo hi = false) := Lib.hid (by rw [HB.out, hA]; rfl)
        clear hA
        go_wp2_with fail
        refine (racc_is GA.out _).mono ?_; rintro e w1 ⟨rfl, rfl⟩
        go_wp2_with fail
        go_returns
        exact ⟨hret_iib ⟨(bounds_no HN.out).1.symm, (bounds_no HN.out).2.symm, HN.out.symm⟩, bdrewN (bref _) _⟩
      · rcases hB : accB B with _ | _
        · have GA := Lib.hid hA
          have GB := Lib.hid hB
          have HN : Hid (boundsB L lo hi = false) := Lib.hid (by rw [HB.out, hA, hB]; rfl)
          clear hA hB
          go_wp2_with fail
          refine (racc_is GA.out _).mono ?_; rintro e w1 ⟨rfl, rfl⟩
          go_wp2_with fail
          refine (racc_is GB.out _).mono ?_; rintro e w1 ⟨rfl, rfl⟩
          go_wp2_with fail
          go_returns
          exact ⟨hret_iib ⟨(bounds_no HN.out).1.symm, (bounds_no HN.out).2.symm, HN.out.symm⟩, bdrewN (bref _) _⟩
        · have GA := Lib.hid hA
          have GB := Lib.hid hB
          have HY : Hid (boundsB L lo hi = true) := Lib.hid (by rw [HB.out, hA, hB]; rfl)
          clear hA hB
          go_wp2_with fail
          refine (racc_is GA.out _).mono ?_; rintro e w1 ⟨rfl, rfl⟩
          go_wp2_with fail
          refine (racc_is GB.out _).mono ?_; rintro e w1 ⟨rfl, rfl⟩
          go_wp2_with fail
          go_returns
          refine ⟨hret_iib ⟨?_, ?_, HY.out.symm⟩, bdrewN (bref _) _⟩
          · rw [(bounds_yes HY.out).1, E1.out]
          · rw [(bounds_yes HY.out).2, E2.out]
theorem rbounds_any (L : List Int) (lo hi : Int) (a : Option Addr) (cap : Nat) (w : World) (hs : SliceIs w a L) (hl : L.length ≤ 9223372036854775807) :
    Calls Try.prog 33 #[.slice a L.length cap, .int .i64 lo, .int .i64 hi] w (BoundsPost L lo hi w) := by
  by_cases h : weightsC L = 0 ∧ lo ≤ hi ∧ -68719476736 ≤ lo ∧ hi ≤ 68719476736
  · obtain ⟨h0, h1, h2, h3⟩ := h
    rcases weights_cases L with ⟨_, hc⟩ | ⟨hn, ha, hc⟩ | ⟨_, _, hc⟩
    · omega
    · exact rbounds_in L lo hi a cap w hs hn ha hc h1 h2 h3
    · omega
  · have hr : rangeB L lo hi = false := by unfold rangeB; simpa using h
    have HN := Lib.hid (bounds_range hr)
    obtain ⟨c, ec⟩ : ∃ c, weightsC L = c := ⟨_, rfl⟩
    have EC := Lib.hid ec
    have hs' := Lib.hid hs
    have HL := Lib.hid hl
    have h' : ¬ c = 0 ∨ (c = 0 ∧ hi < lo) ∨ (c = 0 ∧ lo ≤ hi ∧ lo < -68719476736) ∨ (c = 0 ∧ lo ≤ hi ∧ -68719476736 ≤ lo ∧ 68719476736 < hi) := by omega
    clear ec hr h hs hl
    have hc : (¬ c = 0 ∧ (c == 0) = false) ∨ (c = 0) := by
      by_cases g : c = 0
      · right; exact g
      · left; exact ⟨g, by simpa using g⟩
    go_enter Try.func33, Try.ntmps33
    go_wp2_with fail
    refine (rweights_is EC.out _ _ _ hs'.out HL.out).mono ?_; rintro e w1 ⟨rfl, rfl⟩
    rcases h' with g | ⟨rfl, g⟩ | ⟨rfl, g, g2⟩ | ⟨rfl, g, g2, g3⟩
    all_goals
      clear hc
      (try (have g9 : (c == 0) = false := by simpa using g))
      go_wp2_with fail
      go_returns
      exact ⟨hret_iib ⟨(bounds_no HN.out).1.symm, (bounds_no HN.out).2.symm, HN.out.symm⟩, bref _⟩
open Go.ChangeShapes Go.WideShapes Go.ChangeAt Go.RowKit
set_option linter.unusedVariables false
set_option linter.unusedSimpArgs false

theorem within_lim (n l : Int) (hl : 0 ≤ l ∧ l ≤ 17592186044416) {b : Bool} (hb : decide (-l ≤ n ∧ n ≤ l) = b) (w : World) : Calls Try.prog 54 #[.int .i64 n, .int .i64 l] w fun e w' => e = .returned (.bool b) ∧ w = w' := by
  obtain ⟨m, hm⟩ : ∃ m, -l = m := ⟨_, rfl⟩
  have e : wrap64 (-l) = m := by unfold wrap64; omega
  have hmI : -17592186044416 ≤ m ∧ m ≤ 0 := by omega
  rw [hm] at hb
  have HB := Lib.hid hb
  clear hb
  by_cases g : m ≤ n
  · by_cases g2 : n ≤ l
    · have HR := Lib.hid (show b = true by rw [← HB.out]; simp [g, g2])
      clear hm hmI hl
      go_enter Try.func54, Try.ntmps54
      go_wp2_with fail
      go_ret
      exact ⟨ret_bool HR.out.symm, rfl⟩
    · have HR := Lib.hid (show b = false by rw [← HB.out]; simp [g, g2])
      clear hm hmI hl
      go_enter Try.func54, Try.ntmps54
      go_wp2_with fail
      go_ret
      exact ⟨ret_bool HR.out.symm, rfl⟩
  · have HR := Lib.hid (show b = false by rw [← HB.out]; simp [g])
    clear hm hmI hl
    go_enter Try.func54, Try.ntmps54
    go_wp2_with fail
    go_ret
    exact ⟨ret_bool HR.out.symm, rfl⟩
theorem win_acc {n : Int} {b : Bool} (hb : accB n = b) (w : World) : Calls Try.prog 54 #[.int .i64 n, .int .i64 17592186044416] w fun e w' => e = .returned (.bool b) ∧ w = w' :=
  within_lim n 17592186044416 (by decide) (by rw [← hb]; rfl) w
theorem win_weight {n : Int} {b : Bool} (hb : weightB n = b) (w : World) : Calls Try.prog 54 #[.int .i64 n, .int .i64 32767] w fun e w' => e = .returned (.bool b) ∧ w = w' :=
  within_lim n 32767 (by decide) (by rw [← hb]; rfl) w
/-- a number from -MaxMid to MaxMid -/
def midB (n : Int) : Bool := decide (-68719476736 ≤ n ∧ n ≤ 68719476736)
theorem midB_t {n : Int} : midB n = true ↔ (-68719476736 ≤ n ∧ n ≤ 68719476736) := by simp [midB]
theorem win_mid {n : Int} {b : Bool} (hb : midB n = b) (w : World) : Calls Try.prog 54 #[.int .i64 n, .int .i64 68719476736] w fun e w' => e = .returned (.bool b) ∧ w = w' :=
  within_lim n 68719476736 (by decide) (by rw [← hb]; rfl) w

/-- Shift where it is not 0 and s is not 0 -/
theorem fshift_walk (a s n : Int) (w : World) (ha : Hid (accB a = true)) (h0 : 1 ≤ s) (h1 : s ≤ 24) (z0 : (s == 0) = false) (H : Int) (eH : wrap64 (2 ^ (s.toNat - 1)) = H) (en : wrap64 (a + H) = n) (hn : Hid (shiftN a s = n / 2 ^ s.toNat)) :
    Calls Try.prog 42 #[.int .i64 a, .int .i64 s] w (SamePost (shiftN a s) w) := by
  go_enter Try.func42, Try.ntmps42
  go_wp2_with fail
  refine (win_acc ha.out _).mono ?_; rintro e w1 ⟨rfl, rfl⟩
  go_wp2_with fail
  go_ret
  exact ⟨ret_int hn.out.symm, rfl⟩
theorem fshift_any (a s : Int) (w : World) : Calls Try.prog 42 #[.int .i64 a, .int .i64 s] w (SamePost (shiftN a s) w) := by
  rcases ha : accB a with _ | _
  · have HA := Lib.hid ha
    have hr := Lib.hid (shift_no (a := a) (s := s) (.inl ha))
    clear ha
    go_enter Try.func42, Try.ntmps42
    go_wp2_with fail
    refine (win_acc HA.out _).mono ?_; rintro e w1 ⟨rfl, rfl⟩
    go_wp2_with fail
    go_ret
    exact ⟨ret_int hr.out.symm, rfl⟩
  · rcases hs : shiftB s with _ | _
    · have HA := Lib.hid ha
      have hr := Lib.hid (shift_no (a := a) (s := s) (.inr hs))
      have hs' : s < 0 ∨ (¬ s < 0 ∧ 24 < s) := by have := shiftB_f.1 hs; omega
      clear ha hs
      rcases hs' with g | ⟨g, g2⟩
      all_goals
        go_enter Try.func42, Try.ntmps42
        go_wp2_with fail
        refine (win_acc HA.out _).mono ?_; rintro e w1 ⟨rfl, rfl⟩
        go_wp2_with fail
        go_ret
        exact ⟨ret_int hr.out.symm, rfl⟩
    · by_cases h0 : s = 0
      · subst h0
        have HA := Lib.hid ha
        have hr := Lib.hid (shift_zero ha)
        clear ha hs
        go_enter Try.func42, Try.ntmps42
        go_wp2_with fail
        refine (win_acc HA.out _).mono ?_; rintro e w1 ⟨rfl, rfl⟩
        go_wp2_with fail
        go_ret
        exact ⟨ret_int hr.out.symm, rfl⟩
      · have a0 := accB_t.1 ha
        have s0 := shiftB_t.1 hs
        have p1 := pow_s (s := s - 1) (by omega)
        have e1 : (s - 1).toNat = s.toNat - 1 := by omega
        have hr := shift_some ha hs h0
        obtain ⟨H, eH⟩ : ∃ H : Int, 2 ^ (s - 1).toNat = H := ⟨_, rfl⟩
        rw [eH] at hr p1
        exact fshift_walk a s (a + H) w (Lib.hid ha) (by omega) (by omega) (by simpa using h0) H (by rw [← e1, eH]; exact wrap_in (by omega) (by omega)) (wrap_in (by omega) (by omega)) (Lib.hid hr)
theorem fshift_is {a s n : Int} (h : shiftN a s = n) (w : World) : Calls Try.prog 42 #[.int .i64 a, .int .i64 s] w fun e w' => e = .returned (.int .i64 n) ∧ Below w.heap.size w w' := by
  refine (fshift_any a s w).mono ?_
  rintro e w' ⟨rfl, rfl⟩
  rw [h]; exact ⟨rfl, bref _⟩
theorem fclamp_is {v m n : Int} (h : clampN v m = n) (w : World) : Calls Try.prog 41 #[.int .i64 v, .int .i64 m] w fun e w' => e = .returned (.int .i64 n) ∧ Below w.heap.size w w' := by
  rw [← h]
  clear h
  go_enter Try.func41, Try.ntmps41
  go_wp2_with fail
  all_goals
    go_ret
    refine ⟨ret_int ?_, bref _⟩
    unfold clampN
    (try simp at *)
    (repeat' split) <;> omega
theorem fweights_same {L : List Int} {c : Int} (hc : weightsC L = c) (a : Option Addr) (cap : Nat) (w : World) (hs : SliceIs w a L) (hl : L.length ≤ 9223372036854775807) : Calls Try.prog 27 #[.slice a L.length cap] w fun e w' => e = .returned (.int .i64 c) ∧ w = w' := by
  have hs' := Lib.hid hs
  clear hs
  rcases weights_cases L with ⟨h, h2⟩ | ⟨h, ha, h2⟩ | ⟨h, ha, h2⟩
  · have HC := Lib.hid (hc.symm.trans h2)
    obtain ⟨n, en⟩ : ∃ n, L.length = n := ⟨_, rfl⟩
    rw [en] at h ⊢
    clear en hc h2 hl
    rcases h with rfl | h
    all_goals
      go_enter Try.func27, Try.ntmps27
      go_wp2_with fail
      go_ret
      exact ⟨ret_int HC.out.symm, rfl⟩
  all_goals
    have HC := Lib.hid (hc.symm.trans h2)
    have HD := Lib.hid (show L.all weightB = (L.drop 0).all weightB from rfl)
    have HA := Lib.hid ha
    obtain ⟨n, en⟩ : ∃ n, L.length = n := ⟨_, rfl⟩
    have En := Lib.hid en
    rw [en] at h hl ⊢
    clear ha hc h2 en
    have hn0 : ((n : Int) == 0) = false := by simp; omega
    have hn1 : ¬ (81 : Int) < n := by omega
    go_enter Try.func27, Try.ntmps27
    go_wp2_with fail
    go_loop [15] (fun i => ∃ k : Nat, k ≤ n ∧ i = .int .i64 k ∧ Hid (L.all weightB = (L.drop k).all weightB)) (fun i => n - (intOf i).toNat)
    case atStart => exact ⟨0, by omega, rfl, HD⟩
    case round =>
      obtain ⟨k, hk, rfl, HK⟩ := hrel
      by_cases hlt : k < n
      · obtain ⟨b, off, rfl, hcell⟩ := hs'.out k (by rw [En.out]; exact hlt)
        have hd := all_drop (L := L) (k := k) (by rw [En.out]; exact hlt)
        obtain ⟨v, ev⟩ : ∃ v, L.getD k 0 = v := ⟨_, rfl⟩
        rw [ev] at hcell hd
        clear ev
        have hkI : (k : Int) < n := by omega
        rcases hv : weightB v with _ | _
        · have Hv := Lib.hid hv
          have HR : Hid (L.all weightB = false) := Lib.hid (by rw [HK.out, hd, hv]; rfl)
          have HF : Hid (c = 10) := Lib.hid (by first | exact HC.out | (have := HR.out.symm.trans HA.out; simp at this))
          clear hv hd HK
          go_wp2_with fail
          refine (win_weight Hv.out _).mono ?_; rintro e w1 ⟨rfl, rfl⟩
          go_wp2_with fail
          go_ret
          exact ⟨ret_int HF.out.symm, rfl⟩
        · have Hv := Lib.hid hv
          have HR : Hid (L.all weightB = (L.drop (k + 1)).all weightB) := Lib.hid (by rw [HK.out, hd, hv]; simp)
          clear hv hd HK
          go_wp2_with fail
          refine (win_weight Hv.out _).mono ?_; rintro e w1 ⟨rfl, rfl⟩
          go_wp2_with fail
          go_round
          case rel => exact ⟨k + 1, by omega, by go_num, HR⟩
          case measure => simp [intOf]; omega
      · have HR : Hid (L.all weightB = true) := Lib.hid (by rw [HK.out, List.drop_eq_nil_of_le (by rw [En.out]; omega)]; rfl)
        have HF : Hid (c = 0) := Lib.hid (by first | exact HC.out | (have := HR.out.symm.trans HA.out; simp at this))
        clear HK
        go_wp2_with fail
        go_ret
        exact ⟨ret_int HF.out.symm, rfl⟩
theorem fweights_is {L : List Int} {c : Int} (hc : weightsC L = c) (a : Option Addr) (cap : Nat) (w : World) (hs : SliceIs w a L) (hl : L.length ≤ 9223372036854775807) : Calls Try.prog 27 #[.slice a L.length cap] w fun e w' => e = .returned (.int .i64 c) ∧ Below w.heap.size w w' :=
  (fweights_same hc a cap w hs hl).mono fun e w' h => ⟨h.1, h.2 ▸ bref _⟩
set_option maxHeartbeats 4000000 in
theorem fbounds_in (L : List Int) (lo hi : Int) (a : Option Addr) (cap : Nat) (w : World) (hs : SliceIs w a L) (hl : 1 ≤ L.length ∧ L.length ≤ 81) (ha : L.all weightB = true) (hc : weightsC L = 0) (h1 : lo ≤ hi) (h2 : -68719476736 ≤ lo) (h3 : hi ≤ 68719476736) :
    Calls Try.prog 28 #[.slice a L.length cap, .int .i64 lo, .int .i64 hi] w (BoundsPost L lo hi w) := by
  have hr : rangeB L lo hi = true := by unfold rangeB; simp [hc, h1, h2, h3]
  have HB : Hid (boundsB L lo hi = (accB (lowN L lo hi) && accB (highN L lo hi))) := Lib.hid (by unfold boundsB; simp [hr])
  have hs' := Lib.hid hs
  have HA := Lib.hid ha
  have HC := Lib.hid hc
  have HL := Lib.hid (show L.length ≤ 9223372036854775807 by omega)
  have M1 := Lib.hid (show midB lo = true from midB_t.2 ⟨by omega, by omega⟩)
  have M2 := Lib.hid (show midB hi = true from midB_t.2 ⟨by omega, by omega⟩)
  clear hs ha hc hr
  go_enter Try.func28, Try.ntmps28
  go_wp2_with fail
  refine (fweights_same HC.out _ _ _ hs'.out HL.out).mono ?_; rintro e w1 ⟨rfl, rfl⟩
  go_wp2_with fail
  refine (win_mid M1.out _).mono ?_; rintro e w1 ⟨rfl, rfl⟩
  go_wp2_with fail
  refine (win_mid M2.out _).mono ?_; rintro e w1 ⟨rfl, rfl⟩
  go_wp2_with fail
  go_loopw [9, 10, 33] (fun x y i wr => ∃ (k : Nat) (A B : Int), k ≤ L.length ∧ i = .int .i64 k ∧ x = .int .i64 A ∧ y = .int .i64 B ∧ (-(2251799813685248 * (k : Int)) ≤ A ∧ A ≤ 2251799813685248 * k) ∧ (-(2251799813685248 * (k : Int)) ≤ B ∧ B ≤ 2251799813685248 * k) ∧ Hid (SumsAt L lo hi A B k) ∧ ∃ n, wr = w.drewN n) (fun _ _ i _ => L.length - (intOf i).toNat)
  case atStart => exact ⟨0, 0, 0, by omega, rfl, rfl, rfl, by omega, by omega, Lib.hid ⟨by simp, by simp⟩, 0, rfl⟩
  case round =>
    obtain ⟨k, A, B, hk, rfl, rfl, rfl, bA, bB, HS, nd, rfl⟩ := hrel
    by_cases hlt : k < L.length
    · obtain ⟨b, off, rfl, hcell⟩ := hs'.out k hlt
      have hv := all_at HA.out hlt
      have e1 := hsum_take (f := lowT lo hi) hlt
      have e2 := hsum_take (f := highT lo hi) hlt
      obtain ⟨v, ev⟩ : ∃ v, L.getD k 0 = v := ⟨_, rfl⟩
      rw [ev] at hcell hv e1 e2
      clear ev
      obtain ⟨X, eX⟩ : ∃ X, v * lo = X := ⟨_, rfl⟩
      obtain ⟨Y, eY⟩ : ∃ Y, v * hi = Y := ⟨_, rfl⟩
      have bX := prod_w hv (x := lo) (by omega)
      have bY := prod_w hv (x := hi) (by omega)
      rw [eX] at bX
      rw [eY] at bY
      have HS2 : Hid (SumsAt L lo hi (A + min X Y) (B + max X Y) (k + 1)) := Lib.hid (by
        unfold SumsAt
        rw [e1, e2, ← HS.out.1, ← HS.out.2]
        unfold lowT highT
        rw [eX, eY]; exact ⟨rfl, rfl⟩)
      have t1 : IntKind.i64.wrap X = X := IntWalk.i64_in _ (by omega)
      have t2 : IntKind.i64.wrap Y = Y := IntWalk.i64_in _ (by omega)
      have hkI : (k : Int) < L.length := by omega
      clear e1 e2 HS
      go_wp2_with fail
      go_roundw
      case rel => exact ⟨k + 1, A + min X Y, B + max X Y, by omega, by go_num, rfl, rfl, by omega, by omega, HS2, _, rfl⟩
      case measure => simp [intOf]; omega
    · obtain rfl : k = L.length := by omega
      have e1 : lowN L lo hi = A := by have := HS.out.1; rw [List.take_length] at this; exact this.symm
      have e2 : highN L lo hi = B := by have := HS.out.2; rw [List.take_length] at this; exact this.symm
      rw [e1, e2] at HB
      have E1 := Lib.hid e1
      have E2 := Lib.hid e2
      clear e1 e2 HS
      rcases hA : accB A with _ | _
      · have GA := Lib.hid hA
        have HN : Hid (boundsB L lo hi = false) := Lib.hid (by rw [HB.out, hA]; rfl)
        clear hA
        go_wp2_with fail
        refine (win_acc GA.out _).mono ?_; rintro e w1 ⟨rfl, rfl⟩
        go_wp2_with fail
        go_returns
        exact ⟨hret_iib ⟨(bounds_no HN.out).1.symm, (bounds_no HN.out).2.symm, HN.out.symm⟩, bdrewN (bref _) _⟩
      · rcases hB : accB B with _ | _
        · have GA := Lib.hid hA
          have GB := Lib.hid hB
          have HN : Hid (boundsB L lo hi = false) := Lib.hid (by rw [HB.out, hA, hB]; rfl)
          clear hA hB
          go_wp2_with fail
          refine (win_acc GA.out _).mono ?_; rintro e w1 ⟨rfl, rfl⟩
          go_wp2_with fail
          refine (win_acc GB.out _).mono ?_; rintro e w1 ⟨rfl, rfl⟩
          go_wp2_with fail
          go_returns
          exact ⟨hret_iib ⟨(bounds_no HN.out).1.symm, (bounds_no HN.out).2.symm, HN.out.symm⟩, bdrewN (bref _) _⟩
        · have GA := Lib.hid hA
          have GB := Lib.hid hB
          have HY : Hid (boundsB L lo hi = true) := Lib.hid (by rw [HB.out, hA, hB]; rfl)
          clear hA hB
          go_wp2_with fail
          refine (win_acc GA.out _).mono ?_; rintro e w1 ⟨rfl, rfl⟩
          go_wp2_with fail
          refine (win_acc GB.out _).mono ?_; rintro e w1 ⟨rfl, rfl⟩
          go_wp2_with fail
          go_returns
          refine ⟨hret_iib ⟨?_, ?_, HY.out.symm⟩, bdrewN (bref _) _⟩
          · rw [(bounds_yes HY.out).1, E1.out]
          · rw [(bounds_yes HY.out).2, E2.out]
theorem fbounds_any (L : List Int) (lo hi : Int) (a : Option Addr) (cap : Nat) (w : World) (hs : SliceIs w a L) (hl : L.length ≤ 9223372036854775807) :
    Calls Try.prog 28 #[.slice a L.length cap, .int .i64 lo, .int .i64 hi] w (BoundsPost L lo hi w) := by
  by_cases h : weightsC L = 0 ∧ lo ≤ hi ∧ -68719476736 ≤ lo ∧ hi ≤ 68719476736
  · obtain ⟨h0, h1, h2, h3⟩ := h
    rcases weights_cases L with ⟨_, hc⟩ | ⟨hn, ha, hc⟩ | ⟨_, _, hc⟩
    · omega
    · exact fbounds_in L lo hi a cap w hs hn ha hc h1 h2 h3
    · omega
  · have hr : rangeB L lo hi = false := by unfold rangeB; simpa using h
    have HN := Lib.hid (bounds_range hr)
    obtain ⟨c, ec⟩ : ∃ c, weightsC L = c := ⟨_, rfl⟩
    have EC := Lib.hid ec
    have hs' := Lib.hid hs
    have HL := Lib.hid hl
    have h' : ¬ c = 0 ∨ (c = 0 ∧ hi < lo) ∨ (c = 0 ∧ lo ≤ hi ∧ Hid (midB lo = false)) ∨ (c = 0 ∧ lo ≤ hi ∧ Hid (midB lo = true) ∧ Hid (midB hi = false)) := by
      by_cases g0 : c = 0
      · by_cases g1 : lo ≤ hi
        · rcases g2 : midB lo with _ | _
          · exact .inr (.inr (.inl ⟨g0, g1, Lib.hid rfl⟩))
          · refine .inr (.inr (.inr ⟨g0, g1, Lib.hid rfl, Lib.hid ?_⟩))
            have g3 := midB_t.1 g2
            unfold midB
            simp
            omega
        · exact .inr (.inl ⟨g0, by omega⟩)
      · exact .inl g0
    clear ec hr h hs hl
    rcases h' with g | ⟨rfl, g⟩ | ⟨rfl, g, g2⟩ | ⟨rfl, g, g2, g3⟩
    · have g9 : (c == 0) = false := by simpa using g
      go_enter Try.func28, Try.ntmps28
      go_wp2_with fail
      refine (fweights_same EC.out _ _ _ hs'.out HL.out).mono ?_; rintro e w1 ⟨rfl, rfl⟩
      go_wp2_with fail
      go_returns
      exact ⟨hret_iib ⟨(bounds_no HN.out).1.symm, (bounds_no HN.out).2.symm, HN.out.symm⟩, bref _⟩
    · go_enter Try.func28, Try.ntmps28
      go_wp2_with fail
      refine (fweights_same EC.out _ _ _ hs'.out HL.out).mono ?_; rintro e w1 ⟨rfl, rfl⟩
      go_wp2_with fail
      go_returns
      exact ⟨hret_iib ⟨(bounds_no HN.out).1.symm, (bounds_no HN.out).2.symm, HN.out.symm⟩, bref _⟩
    · go_enter Try.func28, Try.ntmps28
      go_wp2_with fail
      refine (fweights_same EC.out _ _ _ hs'.out HL.out).mono ?_; rintro e w1 ⟨rfl, rfl⟩
      go_wp2_with fail
      refine (win_mid g2.out _).mono ?_; rintro e w1 ⟨rfl, rfl⟩
      go_wp2_with fail
      go_returns
      exact ⟨hret_iib ⟨(bounds_no HN.out).1.symm, (bounds_no HN.out).2.symm, HN.out.symm⟩, bref _⟩
    · go_enter Try.func28, Try.ntmps28
      go_wp2_with fail
      refine (fweights_same EC.out _ _ _ hs'.out HL.out).mono ?_; rintro e w1 ⟨rfl, rfl⟩
      go_wp2_with fail
      refine (win_mid g2.out _).mono ?_; rintro e w1 ⟨rfl, rfl⟩
      go_wp2_with fail
      refine (win_mid g3.out _).mono ?_; rintro e w1 ⟨rfl, rfl⟩
      go_wp2_with fail
      go_returns
      exact ⟨hret_iib ⟨(bounds_no HN.out).1.symm, (bounds_no HN.out).2.symm, HN.out.symm⟩, bref _⟩
theorem fbounds_is {L : List Int} {lo hi x y : Int} {b : Bool} (hx : boundsA L lo hi = x) (hy : boundsZ L lo hi = y) (hb : boundsB L lo hi = b) (a : Option Addr) (cap : Nat) (w : World) (hs : SliceIs w a L) (hl : L.length ≤ 9223372036854775807) :
    Calls Try.prog 28 #[.slice a L.length cap, .int .i64 lo, .int .i64 hi] w fun e w' => e = .returned (.tuple #[.int .i64 x, .int .i64 y, .bool b]) ∧ Below w.heap.size w w' := by
  subst hx; subst hy; subst hb; exact fbounds_any L lo hi a cap w hs hl
end Go.Proofs.Ytibmoibhbgbfoaa
