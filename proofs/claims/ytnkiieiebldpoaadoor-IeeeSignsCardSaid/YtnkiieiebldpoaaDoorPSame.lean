/- Equal lists and equal planes, as contracts of the reference. -/
import Derived.Test.YtnkiieiebldpoaaDoorPRef
namespace Go.Proofs.YtnkiieiebldpoaaDoor
open Go.ChangeShapes Go.WideShapes Go.ChangeAt Go.RowKit
set_option linter.unusedVariables false
set_option linter.unusedSimpArgs false

/-- two lists agree on their first numbers -/
def Agree (L K : List Int) (n : Nat) : Prop := ∀ k, k < n → L.getD k 0 = K.getD k 0
theorem agree_zero (L K : List Int) : Agree L K 0 := fun k hk => by omega
theorem agree_step {L K : List Int} {k : Nat} (h : Agree L K k) (e : L.getD k 0 = K.getD k 0) : Agree L K (k + 1) := by
  intro j hj
  by_cases g : j = k
  · subst g; exact e
  · exact h j (by omega)
theorem agree_eq {L K : List Int} (hl : L.length = K.length) (h : Agree L K L.length) : L = K := by
  apply List.ext_getElem hl
  intro k h1 h2
  have := h k h1
  simpa [List.getD_eq_getElem?_getD, h1, h2] using this
theorem same_t {L K : List Int} (hl : L.length = K.length) (h : Agree L K L.length) : true = decide (L = K) := by simp [agree_eq hl h]
theorem same_len {L K : List Int} (hl : ¬ (L.length : Int) = K.length) : false = decide (L = K) := by
  have : ¬ L = K := fun e => hl (by rw [e])
  simp [this]
theorem same_ne {L K : List Int} {k : Nat} (h : ¬ L.getD k 0 = K.getD k 0) : false = decide (L = K) := by
  have : ¬ L = K := fun e => h (by rw [e])
  simp [this]
theorem rsame_any (L K : List Int) (a b : Option Addr) (cap cap' : Nat) (w : World) (ha : SliceIs w a L) (hb : SliceIs w b K) (hl : L.length ≤ 9223372036854775807) (hk : K.length ≤ 9223372036854775807) :
    Calls Tryd.prog 24 #[.slice a L.length cap, .slice b K.length cap'] w (TestPost (decide (L = K)) w) := by
  by_cases hlen : (L.length : Int) = K.length
  · have ha' := Lib.hid ha
    have hb' := Lib.hid hb
    clear ha hb
    have hB := Lib.hid (bref w)
    go_enter Tryd.func24, Tryd.ntmps24
    go_wp2_with fail
    go_loopw [5] (fun i wr => ∃ k : Nat, k ≤ L.length ∧ i = .int .i64 k ∧ Hid (Agree L K k) ∧ ∃ n, wr = w.drewN n) (fun i _ => L.length - (intOf i).toNat)
    case atStart => exact ⟨0, by omega, rfl, Lib.hid (agree_zero L K), 0, rfl⟩
    case round =>
      obtain ⟨k, hk0, rfl, hP, nd, rfl⟩ := hrel
      by_cases hlt : k < L.length
      · obtain ⟨p, po, rfl, hcell⟩ := ha'.out k hlt
        obtain ⟨q, qo, rfl, hcell2⟩ := hb'.out k (by omega)
        have hkI : (k : Int) < L.length := by omega
        have hkI2 : (k : Int) < K.length := by omega
        obtain ⟨v, ev⟩ : ∃ v, L.getD k 0 = v := ⟨_, rfl⟩
        obtain ⟨u, eu⟩ : ∃ u, K.getD k 0 = u := ⟨_, rfl⟩
        rw [ev] at hcell
        rw [eu] at hcell2
        have ev' := Lib.hid ev
        have eu' := Lib.hid eu
        clear ev eu
        by_cases v0 : v = u
        · have hS := Lib.hid (agree_step hP.out (by rw [ev'.out, eu'.out]; exact v0))
          subst v0
          go_wp2_with fail
          go_quiet (fail)
          go_wp2_with fail
          go_roundw
          case rel => exact ⟨k + 1, by omega, by go_num, hS, _, rfl⟩
          case measure => simp [intOf]; omega
        · have hN := Lib.hid (same_ne (L := L) (K := K) (k := k) (by rw [ev'.out, eu'.out]; exact v0))
          go_wp2_with fail
          go_quiet (fail)
          go_wp2_with fail
          go_ret
          exact ⟨ret_bool hN.out, bdrewN (bdrewN hB.out _) _⟩
      · obtain rfl : k = L.length := by omega
        have hN := Lib.hid (same_t (by omega) hP.out)
        go_wp2_with fail
        go_ret
        exact ⟨ret_bool hN.out, bdrewN hB.out _⟩
  · have hN := Lib.hid (same_len hlen)
    clear ha hb
    go_enter Tryd.func24, Tryd.ntmps24
    go_wp2_with fail
    go_ret
    exact ⟨ret_bool hN.out, bref _⟩
/-- two planes are equal -/
def eqB (W H M : Int) (L : List Int) (W' H' M' : Int) (K : List Int) : Bool := decide (W = W' ∧ H = H' ∧ M = M' ∧ L = K)
end Go.Proofs.YtnkiieiebldpoaaDoor
