/- A list of ints that came in, opened for a tape; a struct of four ints that came in. -/
import Derived.Test.YtibmoibhbgbfoaaTape
import Derived.Test.YtibmoibhbgbfoaaLaw
import Derived.ChangeSlices
import Derived.Lib.SmallJoins
import Derived.ChangeArms
namespace Go.Proofs.Ytibmoibhbgbfoaa
open Go.ChangeShapes Go.WideShapes Go.ChangeAt Go.RowKit
set_option linter.unusedVariables false
set_option linter.unusedSimpArgs false

theorem cells3 : Try.prog.cellsOf 3 = 1 := by kernel_rfl
theorem open_list {H : Type} {enc : TypeId × Value → H} {W : World} {a0 : Option Addr} {len cap : Nat} {d : DataW H} {ps : List MemPlace}
    (h : DataW.Trod enc Try.prog W 0 (fun _ => true) true 22 (.slice a0 len cap) d ps) : ∃ xs : List Int, len = xs.length ∧ SliceIs W a0 xs ∧ Fits xs ∧ xs.length ≤ 9223372036854775807 := by
  obtain ⟨fuel, hf⟩ := h
  rcases open_ints Try.underlying22 Try.underlying3 cells3 hf with ⟨hcs, hx⟩ | ⟨a, len', cap', zs, hcs, _, hl, hm, hz, hx, hcell, hwz⟩
  · simp [Value.cells] at hcs
    obtain ⟨rfl, rfl, rfl⟩ := hcs
    exact ⟨[], rfl, fun k hk => by simp at hk, fun k hk => by simp at hk, by simp⟩
  · simp [Value.cells] at hcs
    obtain ⟨rfl, rfl, rfl⟩ := hcs
    simp only [if_true] at hz
    have e : len = (zs.take len).length := by simp; omega
    have hle : (zs.take len).length ≤ len := by simp; omega
    have hg : ∀ k, k < (zs.take len).length → (zs.take len).getD k 0 = zs.getD k 0 := by
      intro k hk
      have : k < len := by omega
      simp [List.getD_eq_getElem?_getD, this]
    refine ⟨zs.take len, e, fun k hk => ?_, fun k hk => ?_, by unfold maxLen at hm; omega⟩
    · obtain ⟨b, off, spot⟩ := a
      have hspot : spot = none := by simpa [Addr.add] using World.cell?_spot (hcell 0 (by omega))
      subst hspot
      refine ⟨b, off, rfl, ?_⟩
      rw [hg k hk, ← add_plain]
      exact hcell k (by omega)
    · rw [hg k hk]
      refine wf_bd (hwz _ ?_)
      rw [List.getD_eq_getElem?_getD, List.getElem?_eq_getElem (by omega)]
      exact List.getElem_mem _
end Go.Proofs.Ytibmoibhbgbfoaa
