/- The functions of the reference of layer 4 that only read: sizes, valid planes, equal lists, equal planes. -/
import Derived.Test.YtpmajophkhihlaaPPlain
import Derived.BigQuiet
import Derived.Deep.QuietTactic
namespace Go.Proofs.Ytpmajophkhihlaa
open Go.ChangeShapes Go.WideShapes Go.ChangeAt Go.RowKit
set_option linter.unusedVariables false
set_option linter.unusedSimpArgs false

theorem rpsize_any (W H M : Int) (w : World) : Calls Try.prog 39 #[.int .i64 W, .int .i64 H, .int .i64 M] w fun e w' => e = .returned (.bool (sizeB W H M)) ∧ w = w' := by
  by_cases h : (1 ≤ W ∧ W ≤ 128) ∧ (1 ≤ H ∧ H ≤ 128)
  · obtain ⟨⟨w1, w2⟩, h1, h2⟩ := h
    obtain ⟨p1, p2⟩ := prod_bd w1 w2 h1 h2
    obtain ⟨P, eP⟩ : ∃ P, W * H = P := ⟨_, rfl⟩
    have eS : sizeB W H M = decide (P ≤ 4096 ∧ (1 ≤ M ∧ M ≤ 4294967296)) := by rw [sizeB, eP]; simp [w1, w2, h1, h2]
    have hS := Lib.hid eS
    rw [eP] at p1 p2
    have hP := eP
    clear eS eP
    go_enter Try.func39, Try.ntmps39
    go_wp2
    all_goals
      go_ret
      refine ⟨ret_bool ?_, rfl⟩
      rw [hS.out, Bool.eq_iff_iff]; simp at * <;> omega
  · have hS := Lib.hid (sizeB_f (W := W) (H := H) (M := M) |>.2 (fun g => h ⟨g.1, g.2.1⟩))
    have h' : W < 1 ∨ 128 < W ∨ H < 1 ∨ 128 < H := by omega
    clear h
    go_enter Try.func39, Try.ntmps39
    rcases h' with h' | h' | h' | h'
    all_goals
      go_wp2
      all_goals
        go_ret
        exact ⟨ret_bool hS.out.symm, rfl⟩
theorem rpsize_is {W H M : Int} {v : Bool} (h : sizeB W H M = v) (w : World) : Calls Try.prog 39 #[.int .i64 W, .int .i64 H, .int .i64 M] w fun e w' => e = .returned (.bool v) ∧ w = w' := by
  rw [← h]; exact rpsize_any W H M w
set_option maxHeartbeats 1000000 in
theorem rpvalid_any (W H M : Int) (L : List Int) (a : Option Addr) (cap : Nat) (w : World) (hs : SliceIs w a L) (hl : L.length ≤ 9223372036854775807) :
    Calls Try.prog 16 #[.agg #[.int .i64 W, .int .i64 H, .int .i64 M, .slice a L.length cap]] w (TestPost (planeB W H M L) w) := by
  rcases hz : sizeB W H M with _ | _
  · have hz' := Lib.hid hz
    clear hz hs
    go_enter Try.func16, Try.ntmps16
    go_wp2_with fail
    refine (rpsize_is hz'.out _).mono ?_; rintro e w1 ⟨rfl, rfl⟩
    go_wp2_with fail
    go_ret
    exact ⟨ret_bool (planeB_size hz'.out).symm, balloc (bref _) _⟩
  · have hz' := Lib.hid hz
    obtain ⟨⟨w1, w2⟩, ⟨h1, h2⟩, hp, m1, m2⟩ := sizeB_t.1 hz
    obtain ⟨p1, p2⟩ := prod_bd w1 w2 h1 h2
    obtain ⟨P, eP⟩ : ∃ P, W * H = P := ⟨_, rfl⟩
    rw [eP] at hp p1 p2
    have eP' := Lib.hid eP
    have hs' := Lib.hid hs
    clear hz hs
    by_cases hlen : (L.length : Int) = P
    · go_enter Try.func16, Try.ntmps16
      go_wp2_with fail
      refine (rpsize_is hz'.out _).mono ?_; rintro e w1 ⟨rfl, rfl⟩
      go_wp2_with fail
      clear eP
      have hb := Lib.hid (balloc (bref w) (.cells #[.int .i64 W, .int .i64 H, .int .i64 M, .slice a L.length cap] 26))
      have hc0 : Hid ((w.alloc (.cells #[.int .i64 W, .int .i64 H, .int .i64 M, .slice a L.length cap] 26)).cell? ⟨w.heap.size, 2, none⟩ = some (.int .i64 M)) := Lib.hid (by go_cell)
      have hc1 : Hid ((w.alloc (.cells #[.int .i64 W, .int .i64 H, .int .i64 M, .slice a L.length cap] 26)).cell? ⟨w.heap.size, 3, none⟩ = some (.slice a L.length cap)) := Lib.hid (by go_cell)
      obtain ⟨wc, ewc⟩ : ∃ wc, w.alloc (.cells #[.int .i64 W, .int .i64 H, .int .i64 M, .slice a L.length cap] 26) = wc := ⟨_, rfl⟩
      rw [ewc] at hb hc0 hc1
      simp only [ewc]
      clear ewc
      have hc0' := hc0.out
      have hc1' := hc1.out
      go_loopw [3] (fun i wr => ∃ k : Nat, k ≤ L.length ∧ i = .int .i64 k ∧ Hid (Pixs M L k) ∧ ∃ n, wr = wc.drewN n) (fun i _ => L.length - (intOf i).toNat)
      case atStart => exact ⟨0, by omega, rfl, Lib.hid (pixs_zero M L), 0, rfl⟩
      case round =>
        obtain ⟨k, hk, rfl, hP, nd, rfl⟩ := hrel
        by_cases hlt : k < L.length
        · obtain ⟨b, off, rfl, hcell⟩ := (is_below hs'.out hb.out) k hlt
          have hkI : (k : Int) < L.length := by omega
          obtain ⟨v, ev⟩ : ∃ v, L.getD k 0 = v := ⟨_, rfl⟩
          rw [ev] at hcell
          have ev' := Lib.hid ev
          clear ev
          by_cases v0 : v < 0
          · have d0 : decide (v < 0) = true := by simpa using v0
            go_wp2_with fail
            go_quiet (fail)
            go_wp2_with fail
            go_ret
            exact ⟨ret_bool (planeB_pix hlt (by rw [ev'.out]; omega)).symm, bdrewN (bdrewN hb.out _) _⟩
          · have d0 : decide (v < 0) = false := by simpa using v0
            by_cases v1 : v > M
            · have d1 : decide (v > M) = true := by simpa using v1
              go_wp2_with fail
              go_quiet (fail)
              go_wp2_with fail
              go_ret
              exact ⟨ret_bool (planeB_pix hlt (by rw [ev'.out]; omega)).symm, bdrewN (bdrewN hb.out _) _⟩
            · have d1 : decide (v > M) = false := by simpa using v1
              have hS := Lib.hid (pixs_step hP.out (by rw [ev'.out]; omega) (by rw [ev'.out]; omega))
              go_wp2_with fail
              go_quiet (fail)
              go_wp2_with fail
              go_roundw
              case rel => exact ⟨k + 1, by omega, by go_num, hS, _, rfl⟩
              case measure => simp [intOf]; omega
        · obtain rfl : k = L.length := by omega
          go_wp2_with fail
          go_ret
          exact ⟨ret_bool (planeB_all hz'.out (by rw [eP'.out]; omega) hP.out).symm, bdrewN hb.out _⟩
    · go_enter Try.func16, Try.ntmps16
      go_wp2_with fail
      refine (rpsize_is hz'.out _).mono ?_; rintro e w1 ⟨rfl, rfl⟩
      go_wp2_with fail
      go_ret
      exact ⟨ret_bool (planeB_len (by rw [eP'.out]; exact hlen)).symm, balloc (bref _) _⟩
end Go.Proofs.Ytpmajophkhihlaa
