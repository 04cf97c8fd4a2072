/- The contracts of plane.within, extent.Mul where it is called, plane.permitted and plane.New. The least and the greatest of a list, as contracts of slices.Min and slices.Max. Equal lists and equal planes, as contracts of slices.Equal and plane.Equal; plane.Valid. The contract of plane.At. -/
import Derived.Test.YtibmoibhbgbfoaaPPlain
import Derived.Test.YtibmoibhbgbfoaaPPixel
import Derived.Test.YtibmoibhbgbfoaaPCropPlain
import Derived.Lib.MinMax
namespace Go.Proofs.Ytibmoibhbgbfoaa
open Go.ChangeShapes Go.WideShapes Go.ChangeAt Go.RowKit
set_option linter.unusedVariables false
set_option linter.unusedSimpArgs false

theorem within_is {n m : Int} {v : Bool} (h : v = decide (1 ≤ n ∧ n ≤ m)) (w : World) : Calls Try.prog 67 #[.int .i64 n, .int .i64 m] w fun e w' => e = .returned (.bool v) ∧ w = w' := by
  have hv := Lib.hid h
  clear h
  by_cases h1 : 1 ≤ n
  all_goals by_cases h2 : n ≤ m
  all_goals
    go_enter Try.func67, Try.ntmps67
    go_wp2_with fail
    go_ret
    refine ⟨ret_bool ?_, rfl⟩
    rw [hv.out]
    simp <;> omega
def mulN (a b l : Int) : Int := if a * b ≤ l then a * b else 0
theorem mulq_any (a b l : Int) (w : World) (a0 : 1 ≤ a) (a1 : a ≤ 128) (b0 : 1 ≤ b) (b1 : b ≤ 128) (l0 : 0 ≤ l) (l1 : l ≤ 9223372036854775807) :
    Calls Try.prog 68 #[.int .i64 a, .int .i64 b, .int .i64 l] w fun e w' => e = .returned (.tuple #[.int .i64 (mulN a b l), .bool (decide (a * b ≤ l))]) ∧ w = w' := by
  have hp := prod_bd a0 a1 b0 b1
  have hiff : a > l / b ↔ ¬ a * b ≤ l := by
    have := Int.le_ediv_iff_mul_le (a := a) (b := l) (c := b) (by omega)
    omega
  by_cases hd : a * b ≤ l
  · have hN := Lib.hid (show mulN a b l = a * b ∧ decide (a * b ≤ l) = true by simp [mulN, hd])
    have h1 : ¬ a > l / b := by rw [hiff]; omega
    have hl : 0 ≤ l / b := Int.ediv_nonneg l0 (by omega)
    obtain ⟨q, eq⟩ : ∃ q, l / b = q := ⟨_, rfl⟩
    clear hd hiff
    go_enter Try.func68, Try.ntmps68
    go_wp2_with fail
    go_ret2
    rw [hN.out.1, hN.out.2]
    exact ⟨rfl, rfl⟩
  · have hN := Lib.hid (show mulN a b l = 0 ∧ decide (a * b ≤ l) = false by simp [mulN, hd])
    have h1 : a > l / b := by rw [hiff]; omega
    clear hd hiff hp
    go_enter Try.func68, Try.ntmps68
    go_wp2_with fail
    go_ret2
    rw [hN.out.1, hN.out.2]
    exact ⟨rfl, rfl⟩
theorem permit_any (W H M : Int) (w : World) : Calls Try.prog 58 #[.int .i64 W, .int .i64 H, .int .i64 M] w fun e w' => e = .returned (.bool (sizeB W H M)) ∧ w = w' := by
  by_cases h : (1 ≤ W ∧ W ≤ 128) ∧ (1 ≤ H ∧ H ≤ 128) ∧ (1 ≤ M ∧ M ≤ 4294967296)
  · obtain ⟨⟨w1, w2⟩, ⟨h1, h2⟩, m1, m2⟩ := h
    have eS : sizeB W H M = decide (W * H ≤ 4096) := by simp [sizeB, w1, w2, h1, h2, m1, m2]
    have hS := Lib.hid eS
    clear eS
    go_enter Try.func58, Try.ntmps58
    go_wp2_with fail
    refine (within_is (v := true) (by simp; omega) _).mono ?_; rintro e w1 ⟨rfl, rfl⟩
    go_wp2_with fail
    refine (within_is (v := true) (by simp; omega) _).mono ?_; rintro e w1 ⟨rfl, rfl⟩
    go_wp2_with fail
    refine (within_is (v := true) (by simp; omega) _).mono ?_; rintro e w1 ⟨rfl, rfl⟩
    go_wp2_with fail
    refine (mulq_any _ _ _ _ w1 w2 h1 h2 (by omega) (by omega)).mono ?_; rintro e w1 ⟨rfl, rfl⟩
    go_wp2_with fail
    go_ret
    exact ⟨ret_bool hS.out.symm, rfl⟩
  · have hS := Lib.hid (sizeB_f (W := W) (H := H) (M := M) |>.2 (fun g => h ⟨g.1, g.2.1, g.2.2.2⟩))
    rcases Classical.em (1 ≤ W ∧ W ≤ 128) with hw | hw
    · rcases Classical.em (1 ≤ H ∧ H ≤ 128) with hh | hh
      · have hm : ¬ (1 ≤ M ∧ M ≤ 4294967296) := fun g => h ⟨hw, hh, g⟩
        clear h
        go_enter Try.func58, Try.ntmps58
        go_wp2_with fail
        refine (within_is (v := true) (by simp; omega) _).mono ?_; rintro e w1 ⟨rfl, rfl⟩
        go_wp2_with fail
        refine (within_is (v := true) (by simp; omega) _).mono ?_; rintro e w1 ⟨rfl, rfl⟩
        go_wp2_with fail
        refine (within_is (v := false) (by simp; omega) _).mono ?_; rintro e w1 ⟨rfl, rfl⟩
        go_wp2_with fail
        go_ret
        exact ⟨ret_bool hS.out.symm, rfl⟩
      · clear h
        go_enter Try.func58, Try.ntmps58
        go_wp2_with fail
        refine (within_is (v := true) (by simp; omega) _).mono ?_; rintro e w1 ⟨rfl, rfl⟩
        go_wp2_with fail
        refine (within_is (v := false) (by simp; omega) _).mono ?_; rintro e w1 ⟨rfl, rfl⟩
        go_wp2_with fail
        go_ret
        exact ⟨ret_bool hS.out.symm, rfl⟩
    · clear h
      go_enter Try.func58, Try.ntmps58
      go_wp2_with fail
      refine (within_is (v := false) (by simp; omega) _).mono ?_; rintro e w1 ⟨rfl, rfl⟩
      go_wp2_with fail
      go_ret
      exact ⟨ret_bool hS.out.symm, rfl⟩
theorem permit_is {W H M : Int} {v : Bool} (h : sizeB W H M = v) (w : World) : Calls Try.prog 58 #[.int .i64 W, .int .i64 H, .int .i64 M] w fun e w' => e = .returned (.bool v) ∧ w = w' := by
  rw [← h]; exact permit_any W H M w
theorem pnew_any (W H M : Int) (w : World) : Calls Try.prog 39 #[.int .i64 W, .int .i64 H, .int .i64 M] w (PlanePost W H M (newO W H M) w) := by
  rcases hz : sizeB W H M with _ | _
  · have hz' := Lib.hid hz
    have hO := Lib.hid (show newO W H M = none by simp [newO, hz])
    clear hz
    go_enter Try.func39, Try.ntmps39
    go_wp2_with fail
    refine (permit_is hz'.out _).mono ?_; rintro e w1 ⟨rfl, rfl⟩
    go_wp2_with fail
    go_returns
    rw [hO.out]
    exact ⟨balloc (bref _) _, rfl⟩
  · have hz' := Lib.hid hz
    obtain ⟨⟨w1, w2⟩, ⟨h1, h2⟩, hp, m1, m2⟩ := sizeB_t.1 hz
    obtain ⟨p1, p2⟩ := prod_bd w1 w2 h1 h2
    obtain ⟨n, eP⟩ : ∃ n : Nat, W * H = n := ⟨(W * H).toNat, by omega⟩
    have hO := Lib.hid (show newO W H M = some (List.replicate n 0) by simp [newO, hz, eP])
    rw [eP] at hp p1 p2
    obtain ⟨A, hA, hmk⟩ := run_zeros n (by omega)
    have hA' := Lib.hid hA
    clear hz hA
    go_enter Try.func39, Try.ntmps39
    go_wp2_with fail
    refine (permit_is hz'.out _).mono ?_; rintro e w1 ⟨rfl, rfl⟩
    go_wp2_with fail
    go_returns
    rw [hO.out]
    refine ⟨by go_grown, w.heap.size + 1, n, by simp [pv], ?_⟩
    have hr := row_new (w.alloc (.cells #[.int .i64 W, .int .i64 H, .int .i64 M, .slice (some ⟨w.heap.size + 1, 0, none⟩) n n] 35)) (List.replicate n 0)
    rw [← hA'.out] at hr
    have := RowIs.pix (base := w.heap.size) hr (by simp) (by simp [maxLen]; omega)
    simpa using this
open Go.ChangeShapes Go.WideShapes Go.ChangeAt Go.RowKit
set_option linter.unusedVariables false
set_option linter.unusedSimpArgs false

def topTo (L : List Int) : Nat → Int
  | 0 => L.getD 0 0
  | k + 1 => max (topTo L k) (L.getD k 0)
def lowTo (L : List Int) : Nat → Int
  | 0 => L.getD 0 0
  | k + 1 => min (lowTo L k) (L.getD k 0)
theorem topTo_le {L : List Int} {M : Int} (n : Nat) : (L.getD 0 0 ≤ M ∧ Under M L n) ↔ topTo L n ≤ M := by
  induction n with
  | zero => simp [topTo, Under]
  | succ n ih =>
    constructor
    · rintro ⟨h0, h⟩
      have h1 := ih.1 ⟨h0, fun k hk => h k (by omega)⟩
      have h2 := h n (by omega)
      simp only [topTo]; omega
    · intro h
      simp only [topTo] at h
      obtain ⟨h0, h1⟩ := ih.2 (by omega)
      exact ⟨h0, under_step h1 (by omega)⟩
theorem top_under {L : List Int} {M : Int} (h : 1 ≤ L.length) : Under M L L.length ↔ topTo L L.length ≤ M :=
  ⟨fun k => (topTo_le _).1 ⟨k 0 h, k⟩, fun k => ((topTo_le _).2 k).2⟩
theorem lowTo_ge {L : List Int} {M : Int} (n : Nat) : (M ≤ L.getD 0 0 ∧ ∀ k, k < n → M ≤ L.getD k 0) ↔ M ≤ lowTo L n := by
  induction n with
  | zero => simp [lowTo]
  | succ n ih =>
    constructor
    · rintro ⟨h0, h⟩
      have h1 := ih.1 ⟨h0, fun k hk => h k (by omega)⟩
      have h2 := h n (by omega)
      simp only [lowTo]; omega
    · intro h
      simp only [lowTo] at h
      obtain ⟨h0, h1⟩ := ih.2 (by omega)
      refine ⟨h0, fun k hk => ?_⟩
      by_cases e : k = n
      · subst e; omega
      · exact h1 k (by omega)
theorem low_over {L : List Int} {M : Int} (h : 1 ≤ L.length) : (∀ k, k < L.length → M ≤ L.getD k 0) ↔ M ≤ lowTo L L.length :=
  ⟨fun k => (lowTo_ge _).1 ⟨k 0 h, k⟩, fun k => ((lowTo_ge _).2 k).2⟩
theorem top_one (L : List Int) : topTo L 1 = L.getD 0 0 := by simp [topTo]
theorem low_one (L : List Int) : lowTo L 1 = L.getD 0 0 := by simp [lowTo]
theorem pixs_ends {M : Int} {L : List Int} (h : 1 ≤ L.length) : Pixs M L L.length ↔ (0 ≤ lowTo L L.length ∧ topTo L L.length ≤ M) := by
  rw [← low_over h, ← top_under h]
  exact ⟨fun g => ⟨fun k hk => (g k hk).1, fun k hk => (g k hk).2⟩, fun g k hk => ⟨g.1 k hk, g.2 k hk⟩⟩
theorem max_any (L : List Int) (a : Option Addr) (cap : Nat) (w : World) (hs : SliceIs w a L) (h1 : 1 ≤ L.length) (h2 : L.length ≤ 9223372036854775807) :
    Calls Try.prog 60 #[.slice a L.length cap] w fun e w' => e = .returned (.int .i64 (topTo L L.length)) ∧ w = w' := by
  obtain ⟨b, off, rfl, hcell⟩ := slice_some hs h1
  have hc := Lib.hid hcell
  have h0 := hcell 0 h1
  obtain ⟨v, ev⟩ : ∃ v, L.getD 0 0 = v := ⟨_, rfl⟩
  rw [ev] at h0
  have ev' := Lib.hid ev
  have h1I : 1 ≤ (L.length : Int) := by omega
  clear hcell hs ev
  rw [Nat.add_zero] at h0
  go_enter Try.func60, Try.ntmps60
  go_wp2_with fail
  go_loop [3, 4] (fun m i => ∃ k : Nat, (1 ≤ k ∧ k ≤ L.length) ∧ i = .int .i64 k ∧ m = .int .i64 (topTo L k)) (fun _ i => L.length - (intOf i).toNat)
  case atStart => exact ⟨1, ⟨by omega, by omega⟩, rfl, by rw [top_one, ev'.out]⟩
  case round =>
    obtain ⟨k, ⟨hk0, hk1⟩, rfl, rfl⟩ := hrel
    by_cases hlt : k < L.length
    · have hck := hc.out k hlt
      obtain ⟨u, eu⟩ : ∃ u, L.getD k 0 = u := ⟨_, rfl⟩
      rw [eu] at hck
      have hkI : (k : Int) < L.length := by omega
      have hS := Lib.hid (show topTo L (k + 1) = max (topTo L k) u by rw [topTo, eu])
      clear eu
      go_wp2_with fail
      go_round
      case rel => exact ⟨k + 1, ⟨by omega, by omega⟩, by go_num, by rw [hS.out]⟩
      case measure => simp [intOf]; omega
    · obtain rfl : k = L.length := by omega
      go_wp2_with fail
      go_ret
      exact ⟨rfl, rfl⟩
theorem min_any (L : List Int) (a : Option Addr) (cap : Nat) (w : World) (hs : SliceIs w a L) (h1 : 1 ≤ L.length) (h2 : L.length ≤ 9223372036854775807) :
    Calls Try.prog 59 #[.slice a L.length cap] w fun e w' => e = .returned (.int .i64 (lowTo L L.length)) ∧ w = w' := by
  obtain ⟨b, off, rfl, hcell⟩ := slice_some hs h1
  have hc := Lib.hid hcell
  have h0 := hcell 0 h1
  obtain ⟨v, ev⟩ : ∃ v, L.getD 0 0 = v := ⟨_, rfl⟩
  rw [ev] at h0
  have ev' := Lib.hid ev
  have h1I : 1 ≤ (L.length : Int) := by omega
  clear hcell hs ev
  rw [Nat.add_zero] at h0
  go_enter Try.func59, Try.ntmps59
  go_wp2_with fail
  go_loop [3, 4] (fun m i => ∃ k : Nat, (1 ≤ k ∧ k ≤ L.length) ∧ i = .int .i64 k ∧ m = .int .i64 (lowTo L k)) (fun _ i => L.length - (intOf i).toNat)
  case atStart => exact ⟨1, ⟨by omega, by omega⟩, rfl, by rw [low_one, ev'.out]⟩
  case round =>
    obtain ⟨k, ⟨hk0, hk1⟩, rfl, rfl⟩ := hrel
    by_cases hlt : k < L.length
    · have hck := hc.out k hlt
      obtain ⟨u, eu⟩ : ∃ u, L.getD k 0 = u := ⟨_, rfl⟩
      rw [eu] at hck
      have hkI : (k : Int) < L.length := by omega
      have hS := Lib.hid (show lowTo L (k + 1) = min (lowTo L k) u by rw [lowTo, eu])
      clear eu
      go_wp2_with fail
      go_round
      case rel => exact ⟨k + 1, ⟨by omega, by omega⟩, by go_num, by rw [hS.out]⟩
      case measure => simp [intOf]; omega
    · obtain rfl : k = L.length := by omega
      go_wp2_with fail
      go_ret
      exact ⟨rfl, rfl⟩
open Go.ChangeShapes Go.WideShapes Go.ChangeAt Go.RowKit
set_option linter.unusedVariables false
set_option linter.unusedSimpArgs false

theorem valid_f {W H M : Int} {L : List Int} (h : sizeB W H M = false) : false = planeB W H M L := by simp [planeB, h]
theorem valid_len {W H M : Int} {L : List Int} (h : ¬ (L.length : Int) = W * H) : false = planeB W H M L := by simp [planeB, h]
theorem valid_e {W H M : Int} {L : List Int} {v : Bool} (hz : sizeB W H M = true) (hl : (L.length : Int) = W * H) (h1 : 1 ≤ L.length) (hv : v = decide (0 ≤ lowTo L L.length ∧ topTo L L.length ≤ M)) : v = planeB W H M L := by
  rw [hv, Bool.eq_iff_iff, planeB_t, pixs_ends h1, decide_eq_true_eq]
  exact ⟨fun h => ⟨hz, hl, h⟩, fun h => h.2.2⟩
theorem is_drewN {w : World} {a : Option Addr} {L : List Int} (h : SliceIs w a L) (n : Nat) : SliceIs (w.drewN n) a L := is_below h (bdrewN (bref w) n)
theorem min_q {L : List Int} {v : Int} (e : lowTo L L.length = v) (a : Option Addr) (cap : Nat) (w : World) (n : Nat) (hs : SliceIs w a L) (h1 : 1 ≤ L.length) (h2 : L.length ≤ 9223372036854775807) :
    Calls Try.prog 59 #[.slice a L.length cap] (w.drewN n) fun e w' => e = .returned (.int .i64 v) ∧ w' = w.drewN n :=
  (min_any L a cap (w.drewN n) (is_drewN hs n) h1 h2).mono fun _ _ ⟨he, hw⟩ => ⟨by rw [he, e], hw.symm⟩
theorem max_q {L : List Int} {v : Int} (e : topTo L L.length = v) (a : Option Addr) (cap : Nat) (w : World) (n : Nat) (hs : SliceIs w a L) (h1 : 1 ≤ L.length) (h2 : L.length ≤ 9223372036854775807) :
    Calls Try.prog 60 #[.slice a L.length cap] (w.drewN n) fun e w' => e = .returned (.int .i64 v) ∧ w' = w.drewN n :=
  (max_any L a cap (w.drewN n) (is_drewN hs n) h1 h2).mono fun _ _ ⟨he, hw⟩ => ⟨by rw [he, e], hw.symm⟩
set_option maxHeartbeats 1000000 in
theorem pvalid_any (W H M : Int) (L : List Int) (a : Option Addr) (cap : Nat) (w : World) (hs : SliceIs w a L) (hl : L.length ≤ 9223372036854775807) :
    Calls Try.prog 35 #[.agg #[.int .i64 W, .int .i64 H, .int .i64 M, .slice a L.length cap]] w (TestPost (planeB W H M L) w) := by
  rcases hz : sizeB W H M with _ | _
  · have hz' := Lib.hid hz
    have hE := Lib.hid (valid_f (L := L) hz)
    clear hz hs
    go_enter Try.func35, Try.ntmps35
    go_wp2_with fail
    refine (permit_is hz'.out _).mono ?_; rintro e w1 ⟨rfl, rfl⟩
    go_wp2_with fail
    go_ret
    exact ⟨ret_bool hE.out, balloc (bref _) _⟩
  · have hz' := Lib.hid hz
    obtain ⟨⟨w1, w2⟩, ⟨h1, h2⟩, hp, m1, m2⟩ := sizeB_t.1 hz
    obtain ⟨p1, p2⟩ := prod_bd w1 w2 h1 h2
    obtain ⟨P, eP⟩ : ∃ P, W * H = P := ⟨_, rfl⟩
    have eP' := Lib.hid eP
    have hs' := Lib.hid (is_below hs (balloc (bref w) (.cells #[.int .i64 W, .int .i64 H, .int .i64 M, .slice a L.length cap] 35)))
    by_cases hlen : (L.length : Int) = P
    · have hL1 : 1 ≤ L.length := by omega
      have hE := Lib.hid (fun v => valid_e (v := v) hz (by rw [eP]; exact hlen) hL1)
      obtain ⟨lo, elo⟩ : ∃ lo, lowTo L L.length = lo := ⟨_, rfl⟩
      obtain ⟨hi, ehi⟩ : ∃ hi, topTo L L.length = hi := ⟨_, rfl⟩
      rw [elo, ehi] at hE
      have elo' := Lib.hid elo
      have ehi' := Lib.hid ehi
      rw [eP] at hp p1 p2
      clear hz hs elo ehi
      by_cases g0 : 0 ≤ lo
      · have hd0 : decide (lo ≥ 0) = true := by simpa using g0
        have hE2 := Lib.hid (hE.out (decide (hi ≤ M)) (by simp [g0]))
        by_cases g1 : hi ≤ M
        · have hd1 : decide (hi ≤ M) = true := by simpa using g1
          rw [hd1] at hE2
          go_enter Try.func35, Try.ntmps35
          go_wp2_with fail
          refine (permit_is hz'.out _).mono ?_; rintro e w1 ⟨rfl, rfl⟩
          go_wp2_with fail
          go_quiet (first
            | (go_at_call 59; exact Calls.quiet_of_same (min_q elo'.out _ _ _ _ hs'.out hL1 hl))
            | (go_at_call 60; exact Calls.quiet_of_same (max_q ehi'.out _ _ _ _ hs'.out hL1 hl)))
          go_wp2_with fail
          go_ret
          exact ⟨ret_bool hE2.out, bdrewN (balloc (bref _) _) _⟩
        · have hd1 : decide (hi ≤ M) = false := by simpa using g1
          rw [hd1] at hE2
          go_enter Try.func35, Try.ntmps35
          go_wp2_with fail
          refine (permit_is hz'.out _).mono ?_; rintro e w1 ⟨rfl, rfl⟩
          go_wp2_with fail
          go_quiet (first
            | (go_at_call 59; exact Calls.quiet_of_same (min_q elo'.out _ _ _ _ hs'.out hL1 hl))
            | (go_at_call 60; exact Calls.quiet_of_same (max_q ehi'.out _ _ _ _ hs'.out hL1 hl)))
          go_wp2_with fail
          go_ret
          exact ⟨ret_bool hE2.out, bdrewN (balloc (bref _) _) _⟩
      · have hd0 : decide (lo ≥ 0) = false := by simpa using g0
        have hE2 := Lib.hid (hE.out false (by simp [g0]))
        go_enter Try.func35, Try.ntmps35
        go_wp2_with fail
        refine (permit_is hz'.out _).mono ?_; rintro e w1 ⟨rfl, rfl⟩
        go_wp2_with fail
        go_quiet ((go_at_call 59; exact Calls.quiet_of_same (min_q elo'.out _ _ _ _ hs'.out hL1 hl)))
        go_wp2_with fail
        go_ret
        exact ⟨ret_bool hE2.out, bdrewN (balloc (bref _) _) _⟩
    · have hE := Lib.hid (valid_len (W := W) (H := H) (M := M) (L := L) (by rw [eP]; exact hlen))
      rw [eP] at hp p1 p2
      clear hz hs
      go_enter Try.func35, Try.ntmps35
      go_wp2_with fail
      refine (permit_is hz'.out _).mono ?_; rintro e w1 ⟨rfl, rfl⟩
      go_wp2_with fail
      go_ret
      exact ⟨ret_bool hE.out, balloc (bref _) _⟩
open Go.ChangeShapes Go.WideShapes Go.ChangeAt Go.RowKit
set_option linter.unusedVariables false
set_option linter.unusedSimpArgs false

theorem pvalid_is {W H M : Int} {L : List Int} {v : Bool} (h : planeB W H M L = v) (a : Option Addr) (cap : Nat) (w : World) (hs : SliceIs w a L) (hl : L.length ≤ 9223372036854775807) :
    Calls Try.prog 35 #[.agg #[.int .i64 W, .int .i64 H, .int .i64 M, .slice a L.length cap]] w (TestPost v w) := by
  rw [← h]; exact pvalid_any W H M L a cap w hs hl
theorem edge_is' {q f m : Int} {v : Bool} (w : World) (h : edgeB q f m = v) : Calls Try.prog 36 #[.agg #[.int .i64 q, .int .i64 f], .int .i64 m] w (TestPost v w) := by
  rw [← h]; exact edge_any q f m w
theorem index_is' {i n p k : Int} {v : Bool} (w : World) (i0 : -9223372036854775808 ≤ i) (i1 : i ≤ 9223372036854775807) (h1 : idxN i n p = k) (h2 : idxB i n p = v) :
    Calls Try.prog 69 #[.int .i64 i, .int .i64 n, .int .i64 p] w fun e w' => e = .returned (.tuple #[.int .i64 k, .bool v]) ∧ w = w' := by
  rw [← h1, ← h2]; exact index_any i n p w i0 i1
end Go.Proofs.Ytibmoibhbgbfoaa
