/- A struct of four ints in a variable of its own: what is written there is handed back. -/
import Derived.Test.YtibmoibhbgbfoaaBase
import Derived.Maps.AppendAt
import Derived.OwnWalk
namespace Go.Proofs.Ytibmoibhbgbfoaa
open Go.ChangeShapes Go.WideShapes Go.ChangeAt Go.RowKit
set_option linter.unusedVariables false
set_option linter.unusedSimpArgs false

/-- four cells lie there and may be written -/
def Open4 (w : World) (p : Nat) : Prop := ∀ k, k < 4 → (∃ u, w.cell? ⟨p, k, none⟩ = some u) ∧ w.frozen? ⟨p, k, none⟩ = false
theorem Open4.lt {w : World} {p : Nat} (h : Open4 w p) : p < w.heap.size := by
  obtain ⟨⟨u, hu⟩, _⟩ := h 0 (by omega)
  exact World.block_lt_of_cell? _ _ hu
theorem Open4.grown {a b : World} {p : Nat} {row : Option Nat} (h : Open4 a p) (hg : a.grownBy b row) (hne : some p ≠ row) : Open4 b p := fun k hk => by
  obtain ⟨⟨u, hu⟩, hf⟩ := h k hk
  exact ⟨⟨u, hg.cell hu hne⟩, by rw [World.frozen?_of_block (hg.block p h.lt hne)]; exact hf⟩
theorem Open4.below {a b : World} {p : Nat} (h : Open4 a p) (hb : Below a.heap.size a b) : Open4 b p := h.grown (bgrown hb none) (by simp)
theorem Open4.alloc {a : World} {p : Nat} (h : Open4 a p) (o : Obj) : Open4 (a.alloc o) p := h.below (balloc (bref _) _)
theorem Open4.new (a : World) (v0 v1 v2 v3 : Value) (t : TypeId) : Open4 (a.alloc (.cells #[v0, v1, v2, v3] t)) a.heap.size := fun k hk => by
  have : k = 0 ∨ k = 1 ∨ k = 2 ∨ k = 3 := by omega
  rcases this with rfl | rfl | rfl | rfl
  · exact ⟨⟨v0, by simp [World.cell?_alloc_new]⟩, by simp⟩
  · exact ⟨⟨v1, by simp [World.cell?_alloc_new]⟩, by simp⟩
  · exact ⟨⟨v2, by simp [World.cell?_alloc_new]⟩, by simp⟩
  · exact ⟨⟨v3, by simp [World.cell?_alloc_new]⟩, by simp⟩
theorem Open4.set {a : World} {p : Nat} (h : Open4 a p) (q : Addr) (v : Value) : Open4 (a.setCell q v) p := fun k hk => by
  obtain ⟨⟨u, hu⟩, hf⟩ := h k hk
  refine ⟨?_, by rw [World.frozen?_setCell]; exact hf⟩
  by_cases e : q = ⟨p, k, none⟩
  · subst e; exact ⟨v, World.cell?_setCell_same _ _ _ hu⟩
  · exact ⟨u, by rw [World.cell?_setCell_other _ _ _ _ e]; exact hu⟩
theorem Open4.at {a : World} {p q : Nat} (h : Open4 a p) (e : p = q) : Open4 a q := e ▸ h
/-- four cells written -/
abbrev put4 (w : World) (p : Nat) (v0 v1 v2 v3 : Value) : World := (((w.setCell ⟨p, 0, none⟩ v0).setCell ⟨p, 1, none⟩ v1).setCell ⟨p, 2, none⟩ v2).setCell ⟨p, 3, none⟩ v3
theorem put4_at {w : World} {p : Nat} (h : Open4 w p) (v0 v1 v2 v3 : Value) :
    (put4 w p v0 v1 v2 v3).cell? ⟨p, 0, none⟩ = some v0 ∧ (put4 w p v0 v1 v2 v3).cell? ⟨p, 1, none⟩ = some v1 ∧ (put4 w p v0 v1 v2 v3).cell? ⟨p, 2, none⟩ = some v2 ∧ (put4 w p v0 v1 v2 v3).cell? ⟨p, 3, none⟩ = some v3 := by
  obtain ⟨u0, h0⟩ := (h 0 (by omega)).1
  obtain ⟨u1, h1⟩ := (h 1 (by omega)).1
  obtain ⟨u2, h2⟩ := (h 2 (by omega)).1
  obtain ⟨u3, h3⟩ := (h 3 (by omega)).1
  refine ⟨?_, ?_, ?_, ?_⟩
  · rw [World.cell?_setCell_other _ _ _ _ (by simp), World.cell?_setCell_other _ _ _ _ (by simp), World.cell?_setCell_other _ _ _ _ (by simp)]
    exact World.cell?_setCell_same _ _ _ h0
  · rw [World.cell?_setCell_other _ _ _ _ (by simp), World.cell?_setCell_other _ _ _ _ (by simp)]
    refine World.cell?_setCell_same _ _ _ (u := u1) ?_
    rw [World.cell?_setCell_other _ _ _ _ (by simp)]; exact h1
  · rw [World.cell?_setCell_other _ _ _ _ (by simp)]
    refine World.cell?_setCell_same _ _ _ (u := u2) ?_
    rw [World.cell?_setCell_other _ _ _ _ (by simp), World.cell?_setCell_other _ _ _ _ (by simp)]; exact h2
  · refine World.cell?_setCell_same _ _ _ (u := u3) ?_
    rw [World.cell?_setCell_other _ _ _ _ (by simp), World.cell?_setCell_other _ _ _ _ (by simp), World.cell?_setCell_other _ _ _ _ (by simp)]; exact h3
/-- a block that is none of the old ones and not the row's: writing there is still growth -/
theorem gset {w a : World} {row : Option Nat} (h : w.grownBy a row) {p : Nat} (hp : w.heap.size ≤ p ∨ row = some p) (o : Nat) (u : Value) : w.grownBy (a.setCell ⟨p, o, none⟩ u) row := by
  refine ⟨h.os, h.tape, h.output, by simpa [World.setCell] using h.size, fun i hi hne => ?_⟩
  rw [Below.heap_setCell _ _ _ _ (show i ≠ p from ?_)]
  · exact h.block i hi hne
  · rintro rfl
    rcases hp with hp | hp
    · omega
    · exact hne hp.symm
theorem gput4 {w a : World} {row : Option Nat} (h : w.grownBy a row) {p : Nat} (hp : w.heap.size ≤ p ∨ row = some p) (v0 v1 v2 v3 : Value) : w.grownBy (put4 a p v0 v1 v2 v3) row :=
  gset (gset (gset (gset h hp _ _) hp _ _) hp _ _) hp _ _
theorem galloc {w a : World} {row : Option Nat} (h : w.grownBy a row) (o : Obj) : w.grownBy (a.alloc o) row :=
  ⟨h.os, h.tape, h.output, by simp; exact Nat.le_succ_of_le h.size, fun i hi hne => by rw [Below.heap_alloc _ _ _ (Nat.lt_of_lt_of_le hi h.size)]; exact h.block i hi hne⟩
theorem gthen {w a b : World} {row : Option Nat} (h : w.grownBy a row) (k : a.grownBy b row) : w.grownBy b row := h.trans k
theorem gref (w : World) (row : Option Nat) : w.grownBy w row := World.grownBy.refl w row
/-- four values handed back out of a variable of type api.Rect -/
theorem ret_agg4 {fn : Func} {a : Act} {w1 : World} {p s : Nat} {v0 v1 v2 v3 : Value} {Q : Ending → World → Prop} (hres : fn.results = #[.cell s 33]) (hs : a.tmps.getD s undef = .pointer (some ⟨p, 0, none⟩)) (hd : a.defers = [])
    (ht : Open4 w1 p) (hQ : Q (.returned (.agg #[v0, v1, v2, v3])) (put4 w1 p v0 v1 v2 v3)) :
    bodyPost Try.prog fn Q .ret a (put4 w1 p v0 v1 v2 v3) := by
  obtain ⟨k0, k1, k2, k3⟩ := put4_at ht v0 v1 v2 v3
  obtain ⟨w9, e9⟩ : ∃ w9, w9 = put4 w1 p v0 v1 v2 v3 := ⟨_, rfl⟩
  rw [← e9] at k0 k1 k2 k3 hQ ⊢
  clear e9
  refine bodyPost_ret (v := .agg #[v0, v1, v2, v3]) ?_ hd hQ
  rw [Array.getD_eq_getD_getElem?] at hs
  simp [results, hres, hs, go_sem, k0, k1, k2, k3]
end Go.Proofs.Ytibmoibhbgbfoaa
