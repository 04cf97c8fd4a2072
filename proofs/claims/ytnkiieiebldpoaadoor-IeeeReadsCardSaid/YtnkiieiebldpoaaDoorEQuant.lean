/- slices.Max, slices.Index and Quantize of the package ieee as contracts: the list and the code; the world gets new blocks at most. -/
import Derived.Test.YtnkiieiebldpoaaDoorEScale
import Derived.Test.YtnkiieiebldpoaaDoorFQuant
import Derived.Lib.MinMax
namespace Go.Proofs.YtnkiieiebldpoaaDoor
open Go.ChangeShapes Go.WideShapes Go.ChangeAt Go.RowKit
set_option linter.unusedVariables false
set_option linter.unusedSimpArgs false

/-- the greatest of the first k -/
def bestV (O : List Int) (k : Nat) : Int := O.getD (bestAt O k) 0
theorem bestV_one (O : List Int) : bestV O 1 = O.getD 0 0 := by
  have : bestAt O 1 = 0 := by have := best_lt O 1; omega
  unfold bestV; rw [this]
theorem bestV_step (O : List Int) (k : Nat) : bestV O (k + 1) = max (bestV O k) (O.getD k 0) := by
  unfold bestV
  rw [show bestAt O (k + 1) = if O.getD (bestAt O k) 0 < O.getD k 0 then k else bestAt O k from rfl]
  split <;> rw [Int.max_def] <;> split <;> omega
theorem best_ge (O : List Int) : ∀ k j, j < k → O.getD j 0 ≤ bestV O k
  | 0, j, h => by omega
  | k + 1, j, h => by
    rw [bestV_step]
    by_cases e : j = k
    · subst e; omega
    · have := best_ge O k j (by omega); omega
/-- what stands ahead of the first greatest is less -/
theorem best_first (O : List Int) : ∀ k j, j < bestAt O k → O.getD j 0 < bestV O k
  | 0, j, h => by simp [bestAt] at h
  | k + 1, j, h => by
    rw [bestV_step]
    rw [show bestAt O (k + 1) = if O.getD (bestAt O k) 0 < O.getD k 0 then k else bestAt O k from rfl] at h
    split at h
    · rename_i g
      have := best_ge O k j h
      have g' : bestV O k < O.getD k 0 := g
      omega
    · rename_i g
      have := best_first O k j h
      omega
theorem vmax_any (O : List Int) (a : Option Addr) (cap : Nat) (w : World) (hs : SliceIs w a O) (h1 : 1 ≤ O.length) (h2 : O.length ≤ 9223372036854775807) :
    Calls Tryd.prog 37 #[.slice a O.length cap] w fun e w' => e = .returned (.int .i64 (bestV O O.length)) ∧ w = w' := by
  obtain ⟨b, off, rfl, h0⟩ := hs 0 h1
  have hc : ∀ j, j < O.length → w.cell? ⟨b, off + j, none⟩ = some (.int .i64 (O.getD j 0)) := by
    intro j hj
    obtain ⟨b', o', e, hc⟩ := hs j hj
    cases e; exact hc
  have HC := Lib.hid hc
  have h0' : w.cell? ⟨b, off, none⟩ = some (.int .i64 (O.getD 0 0)) := by simpa using h0
  obtain ⟨v0, ev0⟩ : ∃ v, O.getD 0 0 = v := ⟨_, rfl⟩
  rw [ev0] at h0'
  have HV := Lib.hid (show bestV O 1 = v0 by rw [bestV_one, ev0])
  have hi1 : (1 : Int) ≤ O.length := by omega
  obtain ⟨n, en⟩ : ∃ n, O.length = n := ⟨_, rfl⟩
  rw [en] at h1 h2 hi1 ⊢
  have En := Lib.hid en
  clear hs hc h0 ev0 en
  go_enter Tryd.func37, Tryd.ntmps37
  go_wp2_with fail
  go_loop [3, 4] (fun m i => ∃ (k : Nat) (v : Int), (1 ≤ k ∧ k ≤ n) ∧ i = .int .i64 k ∧ m = .int .i64 v ∧ Hid (bestV O k = v)) (fun _ i => n - (intOf i).toNat)
  case atStart => exact ⟨1, v0, by omega, rfl, rfl, HV⟩
  case round =>
    clear HV h0'
    obtain ⟨k, v, hk, rfl, rfl, HK⟩ := hrel
    by_cases hlt : k < n
    · have hcell := HC.out k (by rw [En.out]; exact hlt)
      obtain ⟨u, eu⟩ : ∃ u, O.getD k 0 = u := ⟨_, rfl⟩
      rw [eu] at hcell
      have HN := Lib.hid (show bestV O (k + 1) = max v u by rw [bestV_step, HK.out, eu])
      have hkI : (k : Int) < n := by omega
      clear eu
      go_wp2_with fail
      go_round
      case rel => exact ⟨k + 1, max v u, by omega, by go_num, rfl, HN⟩
      case measure => simp [intOf]; omega
    · obtain rfl : k = n := by omega
      go_wp2_with fail
      go_ret
      exact ⟨ret_int HK.out.symm, rfl⟩
theorem vindex_any (O : List Int) (a : Option Addr) (cap : Nat) (q : Nat) (v : Int) (w : World) (hs : SliceIs w a O) (hq : q < O.length) (h2 : O.length ≤ 9223372036854775807) (hv : O.getD q 0 = v) (hf : ∀ j, j < q → O.getD j 0 < v) :
    Calls Tryd.prog 36 #[.slice a O.length cap, .int .i64 v] w fun e w' => e = .returned (.int .i64 q) ∧ Below w.heap.size w w' := by
  obtain ⟨b, off, rfl, h0⟩ := hs q hq
  have hc : ∀ j, j < O.length → w.cell? ⟨b, off + j, none⟩ = some (.int .i64 (O.getD j 0)) := by
    intro j hj
    obtain ⟨b', o', e, hc⟩ := hs j hj
    cases e; exact hc
  have HC := Lib.hid hc
  have HF := Lib.hid hf
  have HV := Lib.hid hv
  obtain ⟨n, en⟩ : ∃ n, O.length = n := ⟨_, rfl⟩
  rw [en] at hq h2 ⊢
  have En := Lib.hid en
  clear hs hc h0 en hf hv
  have hB := Lib.hid (bref w)
  go_enter Tryd.func36, Tryd.ntmps36
  go_wp2_with fail
  go_loop [5, 8] (fun _ i => ∃ k : Nat, k ≤ q ∧ i = .int .i64 k) (fun _ i => n - (intOf i).toNat)
  case atStart => exact ⟨0, by omega, rfl⟩
  case round =>
    obtain ⟨k, hk, rfl⟩ := hrel
    have hcell := HC.out k (by rw [En.out]; omega)
    have hkI : (k : Int) < n := by omega
    by_cases hlt : k < q
    · have hlo := HF.out k hlt
      obtain ⟨u, eu⟩ : ∃ u, O.getD k 0 = u := ⟨_, rfl⟩
      rw [eu] at hcell hlo
      have hne : (v == u) = false := by simp; omega
      clear eu hlo
      go_wp2_with fail
      go_round
      case rel => exact ⟨k + 1, by omega, by go_num⟩
      case measure => simp [intOf]; omega
    · obtain rfl : k = q := by omega
      rw [HV.out] at hcell
      go_wp2_with fail
      go_ret
      exact ⟨rfl, hB.out⟩
end Go.Proofs.YtnkiieiebldpoaaDoor
