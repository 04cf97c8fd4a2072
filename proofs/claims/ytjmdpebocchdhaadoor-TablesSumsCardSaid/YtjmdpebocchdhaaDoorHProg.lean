/- The developers' package fixed as contracts: what Shift, Clamp, Weights, Bounds and Span return; nothing that lay in memory changes. -/
import Derived.Test.YtjmdpebocchdhaaDoorHShift
import Derived.Test.YtjmdpebocchdhaaDoorHBounds
namespace Go.Proofs.YtjmdpebocchdhaaDoor
open Go.ChangeShapes Go.WideShapes Go.ChangeAt Go.RowKit
set_option linter.unusedVariables false
set_option linter.unusedSimpArgs false

theorem within_lim (n l : Int) (hl : 0 ≤ l ∧ l ≤ 17592186044416) {b : Bool} (hb : decide (-l ≤ n ∧ n ≤ l) = b) (w : World) : Calls Tryd.prog 46 #[.int .i64 n, .int .i64 l] w fun e w' => e = .returned (.bool b) ∧ w = w' := by
  obtain ⟨m, hm⟩ : ∃ m, -l = m := ⟨_, rfl⟩
  have e : wrap64 (-l) = m := by unfold wrap64; omega
  have hmI : -17592186044416 ≤ m ∧ m ≤ 0 := by omega
  rw [hm] at hb
  have HB := Lib.hid hb
  clear hb
  by_cases g : m ≤ n
  · by_cases g2 : n ≤ l
    · have HR := Lib.hid (show b = true by rw [← HB.out]; simp [g, g2])
      clear hm hmI hl
      go_enter Tryd.func46, Tryd.ntmps46
      go_wp2_with fail
      go_ret
      exact ⟨ret_bool HR.out.symm, rfl⟩
    · have HR := Lib.hid (show b = false by rw [← HB.out]; simp [g, g2])
      clear hm hmI hl
      go_enter Tryd.func46, Tryd.ntmps46
      go_wp2_with fail
      go_ret
      exact ⟨ret_bool HR.out.symm, rfl⟩
  · have HR := Lib.hid (show b = false by rw [← HB.out]; simp [g])
    clear hm hmI hl
    go_enter Tryd.func46, Tryd.ntmps46
    go_wp2_with fail
    go_ret
    exact ⟨ret_bool HR.out.symm, rfl⟩
theorem win_acc {n : Int} {b : Bool} (hb : accB n = b) (w : World) : Calls Tryd.prog 46 #[.int .i64 n, .int .i64 17592186044416] w fun e w' => e = .returned (.bool b) ∧ w = w' :=
  within_lim n 17592186044416 (by decide) (by rw [← hb]; rfl) w
theorem win_weight {n : Int} {b : Bool} (hb : weightB n = b) (w : World) : Calls Tryd.prog 46 #[.int .i64 n, .int .i64 32767] w fun e w' => e = .returned (.bool b) ∧ w = w' :=
  within_lim n 32767 (by decide) (by rw [← hb]; rfl) w
/-- a number from -MaxMid to MaxMid -/
def midB (n : Int) : Bool := decide (-68719476736 ≤ n ∧ n ≤ 68719476736)
theorem midB_t {n : Int} : midB n = true ↔ (-68719476736 ≤ n ∧ n ≤ 68719476736) := by simp [midB]
theorem win_mid {n : Int} {b : Bool} (hb : midB n = b) (w : World) : Calls Tryd.prog 46 #[.int .i64 n, .int .i64 68719476736] w fun e w' => e = .returned (.bool b) ∧ w = w' :=
  within_lim n 68719476736 (by decide) (by rw [← hb]; rfl) w

theorem fweights_same {L : List Int} {c : Int} (hc : weightsC L = c) (a : Option Addr) (cap : Nat) (w : World) (hs : SliceIs w a L) (hl : L.length ≤ 9223372036854775807) : Calls Tryd.prog 38 #[.slice a L.length cap] w fun e w' => e = .returned (.int .i64 c) ∧ w = w' := by
  have hs' := Lib.hid hs
  clear hs
  rcases weights_cases L with ⟨h, h2⟩ | ⟨h, ha, h2⟩ | ⟨h, ha, h2⟩
  · have HC := Lib.hid (hc.symm.trans h2)
    obtain ⟨n, en⟩ : ∃ n, L.length = n := ⟨_, rfl⟩
    rw [en] at h ⊢
    clear en hc h2 hl
    rcases h with rfl | h
    all_goals
      go_enter Tryd.func38, Tryd.ntmps38
      go_wp2_with fail
      go_ret
      exact ⟨ret_int HC.out.symm, rfl⟩
  all_goals
    have HC := Lib.hid (hc.symm.trans h2)
    have HD := Lib.hid (show L.all weightB = (L.drop 0).all weightB from rfl)
    have HA := Lib.hid ha
    obtain ⟨n, en⟩ : ∃ n, L.length = n := ⟨_, rfl⟩
    have En := Lib.hid en
    rw [en] at h hl ⊢
    clear ha hc h2 en
    have hn0 : ((n : Int) == 0) = false := by simp; omega
    have hn1 : ¬ (81 : Int) < n := by omega
    go_enter Tryd.func38, Tryd.ntmps38
    go_wp2_with fail
    go_loop [15] (fun i => ∃ k : Nat, k ≤ n ∧ i = .int .i64 k ∧ Hid (L.all weightB = (L.drop k).all weightB)) (fun i => n - (intOf i).toNat)
    case atStart => exact ⟨0, by omega, rfl, HD⟩
    case round =>
      obtain ⟨k, hk, rfl, HK⟩ := hrel
      by_cases hlt : k < n
      · obtain ⟨b, off, rfl, hcell⟩ := hs'.out k (by rw [En.out]; exact hlt)
        have hd := all_drop (L := L) (k := k) (by rw [En.out]; exact hlt)
        obtain ⟨v, ev⟩ : ∃ v, L.getD k 0 = v := ⟨_, rfl⟩
        rw [ev] at hcell hd
        clear ev
        have hkI : (k : Int) < n := by omega
        rcases hv : weightB v with _ | _
        · have Hv := Lib.hid hv
          have HR : Hid (L.all weightB = false) := Lib.hid (by rw [HK.out, hd, hv]; rfl)
          have HF : Hid (c = 10) := Lib.hid (by first | exact HC.out | (have := HR.out.symm.trans HA.out; simp at this))
          clear hv hd HK
          go_wp2_with fail
          refine (win_weight Hv.out _).mono ?_; rintro e w1 ⟨rfl, rfl⟩
          go_wp2_with fail
          go_ret
          exact ⟨ret_int HF.out.symm, rfl⟩
        · have Hv := Lib.hid hv
          have HR : Hid (L.all weightB = (L.drop (k + 1)).all weightB) := Lib.hid (by rw [HK.out, hd, hv]; simp)
          clear hv hd HK
          go_wp2_with fail
          refine (win_weight Hv.out _).mono ?_; rintro e w1 ⟨rfl, rfl⟩
          go_wp2_with fail
          go_round
          case rel => exact ⟨k + 1, by omega, by go_num, HR⟩
          case measure => simp [intOf]; omega
      · have HR : Hid (L.all weightB = true) := Lib.hid (by rw [HK.out, List.drop_eq_nil_of_le (by rw [En.out]; omega)]; rfl)
        have HF : Hid (c = 0) := Lib.hid (by first | exact HC.out | (have := HR.out.symm.trans HA.out; simp at this))
        clear HK
        go_wp2_with fail
        go_ret
        exact ⟨ret_int HF.out.symm, rfl⟩
theorem fweights_is {L : List Int} {c : Int} (hc : weightsC L = c) (a : Option Addr) (cap : Nat) (w : World) (hs : SliceIs w a L) (hl : L.length ≤ 9223372036854775807) : Calls Tryd.prog 38 #[.slice a L.length cap] w fun e w' => e = .returned (.int .i64 c) ∧ Below w.heap.size w w' :=
  (fweights_same hc a cap w hs hl).mono fun e w' h => ⟨h.1, h.2 ▸ bref _⟩
end Go.Proofs.YtjmdpebocchdhaaDoor
