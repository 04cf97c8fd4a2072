/- The developers' package fixed as contracts: what Shift, Clamp, Weights, Bounds and Span return; nothing that lay in memory changes. -/
import Derived.Test.YtngaocfokdlhaaaHShift
import Derived.Test.YtngaocfokdlhaaaHBounds
namespace Go.Proofs.Ytngaocfokdlhaaa
open Go.ChangeShapes Go.WideShapes Go.ChangeAt Go.RowKit
set_option linter.unusedVariables false
set_option linter.unusedSimpArgs false

theorem within_lim (n l : Int) (hl : 0 ≤ l ∧ l ≤ 17592186044416) {b : Bool} (hb : decide (-l ≤ n ∧ n ≤ l) = b) (w : World) : Calls Try.prog 23 #[.int .i64 n, .int .i64 l] w fun e w' => e = .returned (.bool b) ∧ w = w' := by
  obtain ⟨m, hm⟩ : ∃ m, -l = m := ⟨_, rfl⟩
  have e : wrap64 (-l) = m := by unfold wrap64; omega
  have hmI : -17592186044416 ≤ m ∧ m ≤ 0 := by omega
  rw [hm] at hb
  have HB := Lib.hid hb
  clear hb
  by_cases g : m ≤ n
  · by_cases g2 : n ≤ l
    · have HR := Lib.hid (show b = true by rw [← HB.out]; simp [g, g2])
      clear hm hmI hl
      go_enter Try.func23, Try.ntmps23
      go_wp2_with fail
      go_ret
      exact ⟨ret_bool HR.out.symm, rfl⟩
    · have HR := Lib.hid (show b = false by rw [← HB.out]; simp [g, g2])
      clear hm hmI hl
      go_enter Try.func23, Try.ntmps23
      go_wp2_with fail
      go_ret
      exact ⟨ret_bool HR.out.symm, rfl⟩
  · have HR := Lib.hid (show b = false by rw [← HB.out]; simp [g])
    clear hm hmI hl
    go_enter Try.func23, Try.ntmps23
    go_wp2_with fail
    go_ret
    exact ⟨ret_bool HR.out.symm, rfl⟩
theorem win_acc {n : Int} {b : Bool} (hb : accB n = b) (w : World) : Calls Try.prog 23 #[.int .i64 n, .int .i64 17592186044416] w fun e w' => e = .returned (.bool b) ∧ w = w' :=
  within_lim n 17592186044416 (by decide) (by rw [← hb]; rfl) w
theorem win_weight {n : Int} {b : Bool} (hb : weightB n = b) (w : World) : Calls Try.prog 23 #[.int .i64 n, .int .i64 32767] w fun e w' => e = .returned (.bool b) ∧ w = w' :=
  within_lim n 32767 (by decide) (by rw [← hb]; rfl) w
/-- a number from -MaxMid to MaxMid -/
def midB (n : Int) : Bool := decide (-68719476736 ≤ n ∧ n ≤ 68719476736)
theorem midB_t {n : Int} : midB n = true ↔ (-68719476736 ≤ n ∧ n ≤ 68719476736) := by simp [midB]
theorem win_mid {n : Int} {b : Bool} (hb : midB n = b) (w : World) : Calls Try.prog 23 #[.int .i64 n, .int .i64 68719476736] w fun e w' => e = .returned (.bool b) ∧ w = w' :=
  within_lim n 68719476736 (by decide) (by rw [← hb]; rfl) w

/-- Shift where it is not 0 and s is not 0 -/
theorem fshift_walk (a s n : Int) (w : World) (ha : Hid (accB a = true)) (h0 : 1 ≤ s) (h1 : s ≤ 24) (z0 : (s == 0) = false) (H : Int) (eH : wrap64 (2 ^ (s.toNat - 1)) = H) (en : wrap64 (a + H) = n) (hn : Hid (shiftN a s = n / 2 ^ s.toNat)) :
    Calls Try.prog 10 #[.int .i64 a, .int .i64 s] w (SamePost (shiftN a s) w) := by
  go_enter Try.func10, Try.ntmps10
  go_wp2_with fail
  refine (win_acc ha.out _).mono ?_; rintro e w1 ⟨rfl, rfl⟩
  go_wp2_with fail
  go_ret
  exact ⟨ret_int hn.out.symm, rfl⟩
theorem fshift_any (a s : Int) (w : World) : Calls Try.prog 10 #[.int .i64 a, .int .i64 s] w (SamePost (shiftN a s) w) := by
  rcases ha : accB a with _ | _
  · have HA := Lib.hid ha
    have hr := Lib.hid (shift_no (a := a) (s := s) (.inl ha))
    clear ha
    go_enter Try.func10, Try.ntmps10
    go_wp2_with fail
    refine (win_acc HA.out _).mono ?_; rintro e w1 ⟨rfl, rfl⟩
    go_wp2_with fail
    go_ret
    exact ⟨ret_int hr.out.symm, rfl⟩
  · rcases hs : shiftB s with _ | _
    · have HA := Lib.hid ha
      have hr := Lib.hid (shift_no (a := a) (s := s) (.inr hs))
      have hs' : s < 0 ∨ (¬ s < 0 ∧ 24 < s) := by have := shiftB_f.1 hs; omega
      clear ha hs
      rcases hs' with g | ⟨g, g2⟩
      all_goals
        go_enter Try.func10, Try.ntmps10
        go_wp2_with fail
        refine (win_acc HA.out _).mono ?_; rintro e w1 ⟨rfl, rfl⟩
        go_wp2_with fail
        go_ret
        exact ⟨ret_int hr.out.symm, rfl⟩
    · by_cases h0 : s = 0
      · subst h0
        have HA := Lib.hid ha
        have hr := Lib.hid (shift_zero ha)
        clear ha hs
        go_enter Try.func10, Try.ntmps10
        go_wp2_with fail
        refine (win_acc HA.out _).mono ?_; rintro e w1 ⟨rfl, rfl⟩
        go_wp2_with fail
        go_ret
        exact ⟨ret_int hr.out.symm, rfl⟩
      · have a0 := accB_t.1 ha
        have s0 := shiftB_t.1 hs
        have p1 := pow_s (s := s - 1) (by omega)
        have e1 : (s - 1).toNat = s.toNat - 1 := by omega
        have hr := shift_some ha hs h0
        obtain ⟨H, eH⟩ : ∃ H : Int, 2 ^ (s - 1).toNat = H := ⟨_, rfl⟩
        rw [eH] at hr p1
        exact fshift_walk a s (a + H) w (Lib.hid ha) (by omega) (by omega) (by simpa using h0) H (by rw [← e1, eH]; exact wrap_in (by omega) (by omega)) (wrap_in (by omega) (by omega)) (Lib.hid hr)
theorem fshift_is {a s n : Int} (h : shiftN a s = n) (w : World) : Calls Try.prog 10 #[.int .i64 a, .int .i64 s] w fun e w' => e = .returned (.int .i64 n) ∧ Below w.heap.size w w' := by
  refine (fshift_any a s w).mono ?_
  rintro e w' ⟨rfl, rfl⟩
  rw [h]; exact ⟨rfl, bref _⟩
theorem fclamp_is {v m n : Int} (h : clampN v m = n) (w : World) : Calls Try.prog 12 #[.int .i64 v, .int .i64 m] w fun e w' => e = .returned (.int .i64 n) ∧ Below w.heap.size w w' := by
  rw [← h]
  clear h
  go_enter Try.func12, Try.ntmps12
  go_wp2_with fail
  all_goals
    go_ret
    refine ⟨ret_int ?_, bref _⟩
    unfold clampN
    (try simp at *)
    (repeat' split) <;> omega
theorem fspan_is {lo hi s x y : Int} (hx : shiftN lo s = x) (hy : shiftN hi s = y) (w : World) : Calls Try.prog 8 #[.int .i64 lo, .int .i64 hi, .int .i64 s] w fun e w' => e = .returned (.tuple #[.int .i64 x, .int .i64 y]) ∧ Below w.heap.size w w' := by
  have H := Lib.hid hx
  have H2 := Lib.hid hy
  have HB := Lib.hid (bref w)
  clear hx hy
  go_enter Try.func8, Try.ntmps8
  go_wp2_with fail
  refine (fshift_is H.out _).mono ?_; rintro e w1 ⟨rfl, hb⟩
  have HB1 := Lib.hid (bthen HB.out hb); clear hb HB
  go_wp2_with fail
  refine (fshift_is H2.out _).mono ?_; rintro e w2 ⟨rfl, hb⟩
  have HB2 := Lib.hid (bthen HB1.out hb); clear hb HB1
  go_wp2_with fail
  go_returns
  exact ⟨rfl, HB2.out⟩
theorem fweights_same {L : List Int} {c : Int} (hc : weightsC L = c) (a : Option Addr) (cap : Nat) (w : World) (hs : SliceIs w a L) (hl : L.length ≤ 9223372036854775807) : Calls Try.prog 21 #[.slice a L.length cap] w fun e w' => e = .returned (.int .i64 c) ∧ w = w' := by
  have hs' := Lib.hid hs
  clear hs
  rcases weights_cases L with ⟨h, h2⟩ | ⟨h, ha, h2⟩ | ⟨h, ha, h2⟩
  · have HC := Lib.hid (hc.symm.trans h2)
    obtain ⟨n, en⟩ : ∃ n, L.length = n := ⟨_, rfl⟩
    rw [en] at h ⊢
    clear en hc h2 hl
    rcases h with rfl | h
    all_goals
      go_enter Try.func21, Try.ntmps21
      go_wp2_with fail
      go_ret
      exact ⟨ret_int HC.out.symm, rfl⟩
  all_goals
    have HC := Lib.hid (hc.symm.trans h2)
    have HD := Lib.hid (show L.all weightB = (L.drop 0).all weightB from rfl)
    have HA := Lib.hid ha
    obtain ⟨n, en⟩ : ∃ n, L.length = n := ⟨_, rfl⟩
    have En := Lib.hid en
    rw [en] at h hl ⊢
    clear ha hc h2 en
    have hn0 : ((n : Int) == 0) = false := by simp; omega
    have hn1 : ¬ (81 : Int) < n := by omega
    go_enter Try.func21, Try.ntmps21
    go_wp2_with fail
    go_loop [15] (fun i => ∃ k : Nat, k ≤ n ∧ i = .int .i64 k ∧ Hid (L.all weightB = (L.drop k).all weightB)) (fun i => n - (intOf i).toNat)
    case atStart => exact ⟨0, by omega, rfl, HD⟩
    case round =>
      obtain ⟨k, hk, rfl, HK⟩ := hrel
      by_cases hlt : k < n
      · obtain ⟨b, off, rfl, hcell⟩ := hs'.out k (by rw [En.out]; exact hlt)
        have hd := all_drop (L := L) (k := k) (by rw [En.out]; exact hlt)
        obtain ⟨v, ev⟩ : ∃ v, L.getD k 0 = v := ⟨_, rfl⟩
        rw [ev] at hcell hd
        clear ev
        have hkI : (k : Int) < n := by omega
        rcases hv : weightB v with _ | _
        · have Hv := Lib.hid hv
          have HR : Hid (L.all weightB = false) := Lib.hid (by rw [HK.out, hd, hv]; rfl)
          have HF : Hid (c = 10) := Lib.hid (by first | exact HC.out | (have := HR.out.symm.trans HA.out; simp at this))
          clear hv hd HK
          go_wp2_with fail
          refine (win_weight Hv.out _).mono ?_; rintro e w1 ⟨rfl, rfl⟩
          go_wp2_with fail
          go_ret
          exact ⟨ret_int HF.out.symm, rfl⟩
        · have Hv := Lib.hid hv
          have HR : Hid (L.all weightB = (L.drop (k + 1)).all weightB) := Lib.hid (by rw [HK.out, hd, hv]; simp)
          clear hv hd HK
          go_wp2_with fail
          refine (win_weight Hv.out _).mono ?_; rintro e w1 ⟨rfl, rfl⟩
          go_wp2_with fail
          go_round
          case rel => exact ⟨k + 1, by omega, by go_num, HR⟩
          case measure => simp [intOf]; omega
      · have HR : Hid (L.all weightB = true) := Lib.hid (by rw [HK.out, List.drop_eq_nil_of_le (by rw [En.out]; omega)]; rfl)
        have HF : Hid (c = 0) := Lib.hid (by first | exact HC.out | (have := HR.out.symm.trans HA.out; simp at this))
        clear HK
        go_wp2_with fail
        go_ret
        exact ⟨ret_int HF.out.symm, rfl⟩
theorem fweights_is {L : List Int} {c : Int} (hc : weightsC L = c) (a : Option Addr) (cap : Nat) (w : World) (hs : SliceIs w a L) (hl : L.length ≤ 9223372036854775807) : Calls Try.prog 21 #[.slice a L.length cap] w fun e w' => e = .returned (.int .i64 c) ∧ Below w.heap.size w w' :=
  (fweights_same hc a cap w hs hl).mono fun e w' h => ⟨h.1, h.2 ▸ bref _⟩
set_option maxHeartbeats 4000000 in
theorem fbounds_in (L : List Int) (lo hi : Int) (a : Option Addr) (cap : Nat) (w : World) (hs : SliceIs w a L) (hl : 1 ≤ L.length ∧ L.length ≤ 81) (ha : L.all weightB = true) (hc : weightsC L = 0) (h1 : lo ≤ hi) (h2 : -68719476736 ≤ lo) (h3 : hi ≤ 68719476736) :
    Calls Try.prog 19 #[.slice a L.length cap, .int .i64 lo, .int .i64 hi] w (BoundsPost L lo hi w) := by
  have hr : rangeB L lo hi = true := by unfold rangeB; simp [hc, h1, h2, h3]
  have HB : Hid (boundsB L lo hi = (accB (lowN L lo hi) && accB (highN L lo hi))) := Lib.hid (by unfold boundsB; simp [hr])
  have hs' := Lib.hid hs
  have HA := Lib.hid ha
  have HC := Lib.hid hc
  have HL := Lib.hid (show L.length ≤ 9223372036854775807 by omega)
  have M1 := Lib.hid (show midB lo = true from midB_t.2 ⟨by omega, by omega⟩)
  have M2 := Lib.hid (show midB hi = true from midB_t.2 ⟨by omega, by omega⟩)
  clear hs ha hc hr
  go_enter Try.func19, Try.ntmps19
  go_wp2_with fail
  refine (fweights_same HC.out _ _ _ hs'.out HL.out).mono ?_; rintro e w1 ⟨rfl, rfl⟩
  go_wp2_with fail
  refine (win_mid M1.out _).mono ?_; rintro e w1 ⟨rfl, rfl⟩
  go_wp2_with fail
  refine (win_mid M2.out _).mono ?_; rintro e w1 ⟨rfl, rfl⟩
  go_wp2_with fail
  go_loopw [9, 10, 33] (fun x y i wr => ∃ (k : Nat) (A B : Int), k ≤ L.length ∧ i = .int .i64 k ∧ x = .int .i64 A ∧ y = .int .i64 B ∧ (-(2251799813685248 * (k : Int)) ≤ A ∧ A ≤ 2251799813685248 * k) ∧ (-(2251799813685248 * (k : Int)) ≤ B ∧ B ≤ 2251799813685248 * k) ∧ Hid (SumsAt L lo hi A B k) ∧ ∃ n, wr = w.drewN n) (fun _ _ i _ => L.length - (intOf i).toNat)
  case atStart => exact ⟨0, 0, 0, by omega, rfl, rfl, rfl, by omega, by omega, Lib.hid ⟨by simp, by simp⟩, 0, rfl⟩
  case round =>
    obtain ⟨k, A, B, hk, rfl, rfl, rfl, bA, bB, HS, nd, rfl⟩ := hrel
    by_cases hlt : k < L.length
    · obtain ⟨b, off, rfl, hcell⟩ := hs'.out k hlt
      have hv := all_at HA.out hlt
      have e1 := hsum_take (f := lowT lo hi) hlt
      have e2 := hsum_take (f := highT lo hi) hlt
      obtain ⟨v, ev⟩ : ∃ v, L.getD k 0 = v := ⟨_, rfl⟩
      rw [ev] at hcell hv e1 e2
      clear ev
      obtain ⟨X, eX⟩ : ∃ X, v * lo = X := ⟨_, rfl⟩
      obtain ⟨Y, eY⟩ : ∃ Y, v * hi = Y := ⟨_, rfl⟩
      have bX := prod_w hv (x := lo) (by omega)
      have bY := prod_w hv (x := hi) (by omega)
      rw [eX] at bX
      rw [eY] at bY
      have HS2 : Hid (SumsAt L lo hi (A + min X Y) (B + max X Y) (k + 1)) := Lib.hid (by
        unfold SumsAt
        rw [e1, e2, ← HS.out.1, ← HS.out.2]
        unfold lowT highT
        rw [eX, eY]; exact ⟨rfl, rfl⟩)
      have t1 : IntKind.i64.wrap X = X := IntWalk.i64_in _ (by omega)
      have t2 : IntKind.i64.wrap Y = Y := IntWalk.i64_in _ (by omega)
      have hkI : (k : Int) < L.length := by omega
      clear e1 e2 HS
      go_wp2_with fail
      go_roundw
      case rel => exact ⟨k + 1, A + min X Y, B + max X Y, by omega, by go_num, rfl, rfl, by omega, by omega, HS2, _, rfl⟩
      case measure => simp [intOf]; omega
    · obtain rfl : k = L.length := by omega
      have e1 : lowN L lo hi = A := by have := HS.out.1; rw [List.take_length] at this; exact this.symm
      have e2 : highN L lo hi = B := by have := HS.out.2; rw [List.take_length] at this; exact this.symm
      rw [e1, e2] at HB
      have E1 := Lib.hid e1
      have E2 := Lib.hid e2
      clear e1 e2 HS
      rcases hA : accB A with _ | _
      · have GA := Lib.hid hA
        have HN : Hid (boundsB L lo hi = false) := Lib.hid (by rw [HB.out, hA]; rfl)
        clear hA
        go_wp2_with fail
        refine (win_acc GA.out _).mono ?_; rintro e w1 ⟨rfl, rfl⟩
        go_wp2_with fail
        go_returns
        exact ⟨hret_iib ⟨(bounds_no HN.out).1.symm, (bounds_no HN.out).2.symm, HN.out.symm⟩, bdrewN (bref _) _⟩
      · rcases hB : accB B with _ | _
        · have GA := Lib.hid hA
          have GB := Lib.hid hB
          have HN : Hid (boundsB L lo hi = false) := Lib.hid (by rw [HB.out, hA, hB]; rfl)
          clear hA hB
          go_wp2_with fail
          refine (win_acc GA.out _).mono ?_; rintro e w1 ⟨rfl, rfl⟩
          go_wp2_with fail
          refine (win_acc GB.out _).mono ?_; rintro e w1 ⟨rfl, rfl⟩
          go_wp2_with fail
          go_returns
          exact ⟨hret_iib ⟨(bounds_no HN.out).1.symm, (bounds_no HN.out).2.symm, HN.out.symm⟩, bdrewN (bref _) _⟩
        · have GA := Lib.hid hA
          have GB := Lib.hid hB
          have HY : Hid (boundsB L lo hi = true) := Lib.hid (by rw [HB.out, hA, hB]; rfl)
          clear hA hB
          go_wp2_with fail
          refine (win_acc GA.out _).mono ?_; rintro e w1 ⟨rfl, rfl⟩
          go_wp2_with fail
          refine (win_acc GB.out _).mono ?_; rintro e w1 ⟨rfl, rfl⟩
          go_wp2_with fail
          go_returns
          refine ⟨hret_iib ⟨?_, ?_, HY.out.symm⟩, bdrewN (bref _) _⟩
          · rw [(bounds_yes HY.out).1, E1.out]
          · rw [(bounds_yes HY.out).2, E2.out]
theorem fbounds_any (L : List Int) (lo hi : Int) (a : Option Addr) (cap : Nat) (w : World) (hs : SliceIs w a L) (hl : L.length ≤ 9223372036854775807) :
    Calls Try.prog 19 #[.slice a L.length cap, .int .i64 lo, .int .i64 hi] w (BoundsPost L lo hi w) := by
  by_cases h : weightsC L = 0 ∧ lo ≤ hi ∧ -68719476736 ≤ lo ∧ hi ≤ 68719476736
  · obtain ⟨h0, h1, h2, h3⟩ := h
    rcases weights_cases L with ⟨_, hc⟩ | ⟨hn, ha, hc⟩ | ⟨_, _, hc⟩
    · omega
    · exact fbounds_in L lo hi a cap w hs hn ha hc h1 h2 h3
    · omega
  · have hr : rangeB L lo hi = false := by unfold rangeB; simpa using h
    have HN := Lib.hid (bounds_range hr)
    obtain ⟨c, ec⟩ : ∃ c, weightsC L = c := ⟨_, rfl⟩
    have EC := Lib.hid ec
    have hs' := Lib.hid hs
    have HL := Lib.hid hl
    have h' : ¬ c = 0 ∨ (c = 0 ∧ hi < lo) ∨ (c = 0 ∧ lo ≤ hi ∧ Hid (midB lo = false)) ∨ (c = 0 ∧ lo ≤ hi ∧ Hid (midB lo = true) ∧ Hid (midB hi = false)) := by
      by_cases g0 : c = 0
      · by_cases g1 : lo ≤ hi
        · rcases g2 : midB lo with _ | _
          · exact .inr (.inr (.inl ⟨g0, g1, Lib.hid rfl⟩))
          · refine .inr (.inr (.inr ⟨g0, g1, Lib.hid rfl, Lib.hid ?_⟩))
            have g3 := midB_t.1 g2
            unfold midB
            simp
            omega
        · exact .inr (.inl ⟨g0, by omega⟩)
      · exact .inl g0
    clear ec hr h hs hl
    rcases h' with g | ⟨rfl, g⟩ | ⟨rfl, g, g2⟩ | ⟨rfl, g, g2, g3⟩
    · have g9 : (c == 0) = false := by simpa using g
      go_enter Try.func19, Try.ntmps19
      go_wp2_with fail
      refine (fweights_same EC.out _ _ _ hs'.out HL.out).mono ?_; rintro e w1 ⟨rfl, rfl⟩
      go_wp2_with fail
      go_returns
      exact ⟨hret_iib ⟨(bounds_no HN.out).1.symm, (bounds_no HN.out).2.symm, HN.out.symm⟩, bref _⟩
    · go_enter Try.func19, Try.ntmps19
      go_wp2_with fail
      refine (fweights_same EC.out _ _ _ hs'.out HL.out).mono ?_; rintro e w1 ⟨rfl, rfl⟩
      go_wp2_with fail
      go_returns
      exact ⟨hret_iib ⟨(bounds_no HN.out).1.symm, (bounds_no HN.out).2.symm, HN.out.symm⟩, bref _⟩
    · go_enter Try.func19, Try.ntmps19
      go_wp2_with fail
      refine (fweights_same EC.out _ _ _ hs'.out HL.out).mono ?_; rintro e w1 ⟨rfl, rfl⟩
      go_wp2_with fail
      refine (win_mid g2.out _).mono ?_; rintro e w1 ⟨rfl, rfl⟩
      go_wp2_with fail
      go_returns
      exact ⟨hret_iib ⟨(bounds_no HN.out).1.symm, (bounds_no HN.out).2.symm, HN.out.symm⟩, bref _⟩
    · go_enter Try.func19, Try.ntmps19
      go_wp2_with fail
      refine (fweights_same EC.out _ _ _ hs'.out HL.out).mono ?_; rintro e w1 ⟨rfl, rfl⟩
      go_wp2_with fail
      refine (win_mid g2.out _).mono ?_; rintro e w1 ⟨rfl, rfl⟩
      go_wp2_with fail
      refine (win_mid g3.out _).mono ?_; rintro e w1 ⟨rfl, rfl⟩
      go_wp2_with fail
      go_returns
      exact ⟨hret_iib ⟨(bounds_no HN.out).1.symm, (bounds_no HN.out).2.symm, HN.out.symm⟩, bref _⟩
theorem fbounds_is {L : List Int} {lo hi x y : Int} {b : Bool} (hx : boundsA L lo hi = x) (hy : boundsZ L lo hi = y) (hb : boundsB L lo hi = b) (a : Option Addr) (cap : Nat) (w : World) (hs : SliceIs w a L) (hl : L.length ≤ 9223372036854775807) :
    Calls Try.prog 19 #[.slice a L.length cap, .int .i64 lo, .int .i64 hi] w fun e w' => e = .returned (.tuple #[.int .i64 x, .int .i64 y, .bool b]) ∧ Below w.heap.size w w' := by
  subst hx; subst hy; subst hb; exact fbounds_any L lo hi a cap w hs hl
end Go.Proofs.Ytngaocfokdlhaaa
