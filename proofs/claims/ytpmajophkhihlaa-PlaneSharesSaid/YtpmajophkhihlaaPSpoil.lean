/- The tape's SpoilPlane: some plane, maybe not valid; beside new blocks the tape's alone has changed. -/
import Derived.Test.YtpmajophkhihlaaPEdge
namespace Go.Proofs.Ytpmajophkhihlaa
open Go.ChangeShapes Go.WideShapes Go.ChangeAt Go.RowKit
set_option linter.unusedVariables false
set_option linter.unusedSimpArgs false

/-- some plane came back -/
def SpoilOf (W : World) (p : Nat) (a : Option Addr) (cap : Nat) (xs : List Int) (w : World) (e : Ending) (w' : World) : Prop :=
  ∃ (c h m : Int) (K : List Int) (sl : Option Addr) (k : Nat), e = .returned (.agg #[.int .i64 c, .int .i64 h, .int .i64 m, .slice sl K.length k]) ∧ SliceIs w' sl K ∧ K.length ≤ 4097 ∧
    (-9223372036854775808 ≤ c ∧ c ≤ 9223372036854775807) ∧ (-9223372036854775808 ≤ h ∧ h ≤ 9223372036854775807) ∧ (-9223372036854775808 ≤ m ∧ m ≤ 9223372036854775807) ∧ TapeSome W w' p a cap xs ∧ w.grownBy w' (some p) ∧ (∀ b o, sl = some ⟨b, o, none⟩ → w.heap.size ≤ b)
/-- a block's four cells, which can be written -/
def Box4 (w : World) (b : Nat) (v0 v1 v2 v3 : Value) : Prop :=
  (w.cell? ⟨b, 0, none⟩ = some v0 ∧ w.cell? ⟨b, 1, none⟩ = some v1 ∧ w.cell? ⟨b, 2, none⟩ = some v2 ∧ w.cell? ⟨b, 3, none⟩ = some v3) ∧ (w.frozen? ⟨b, 0, none⟩ = false ∧ w.frozen? ⟨b, 1, none⟩ = false ∧ w.frozen? ⟨b, 2, none⟩ = false ∧ w.frozen? ⟨b, 3, none⟩ = false)
theorem Box4.grown {w w' : World} {b : Nat} {v0 v1 v2 v3 : Value} {row : Option Nat} (h : Box4 w b v0 v1 v2 v3) (hg : w.grownBy w' row) (hne : some b ≠ row) : Box4 w' b v0 v1 v2 v3 := by
  obtain ⟨⟨h0, h1, h2, h3⟩, f0, f1, f2, f3⟩ := h
  have hl := World.block_lt_of_cell? _ _ h0
  refine ⟨⟨hg.cell h0 hne, hg.cell h1 hne, hg.cell h2 hne, hg.cell h3 hne⟩, ?_, ?_, ?_, ?_⟩
  · rw [hg.frozen_far ⟨b, 0, none⟩ hl hne]; exact f0
  · rw [hg.frozen_far ⟨b, 1, none⟩ hl hne]; exact f1
  · rw [hg.frozen_far ⟨b, 2, none⟩ hl hne]; exact f2
  · rw [hg.frozen_far ⟨b, 3, none⟩ hl hne]; exact f3
theorem Box4.of {w : World} {b : Nat} {v0 v1 v2 v3 : Value} {t : TypeId} (h : w.heap[b]? = some (.cells #[v0, v1, v2, v3] t)) : Box4 w b v0 v1 v2 v3 :=
  ⟨⟨by rw [cell_of_row w _ 0 _ t (0, 0) h]; rfl, by rw [cell_of_row w _ 1 _ t (0, 0) h]; rfl, by rw [cell_of_row w _ 2 _ t (0, 0) h]; rfl, by rw [cell_of_row w _ 3 _ t (0, 0) h]; rfl⟩,
    frozen_of_row w _ 0 _ t h, frozen_of_row w _ 1 _ t h, frozen_of_row w _ 2 _ t h, frozen_of_row w _ 3 _ t h⟩
theorem Box4.op {w : World} {b : Nat} {v0 v1 v2 v3 : Value} (h : Box4 w b v0 v1 v2 v3) : Open4 w b := fun k hk => by
  obtain ⟨⟨h0, h1, h2, h3⟩, f0, f1, f2, f3⟩ := h
  rcases (show k = 0 ∨ k = 1 ∨ k = 2 ∨ k = 3 by omega) with rfl | rfl | rfl | rfl
  · exact ⟨⟨_, h0⟩, f0⟩
  · exact ⟨⟨_, h1⟩, f1⟩
  · exact ⟨⟨_, h2⟩, f2⟩
  · exact ⟨⟨_, h3⟩, f3⟩
theorem Box4.set0 {w : World} {b : Nat} {v0 v1 v2 v3 : Value} (h : Box4 w b v0 v1 v2 v3) (u : Value) : Box4 (w.setCell ⟨b, 0, none⟩ u) b u v1 v2 v3 := by
  obtain ⟨⟨h0, h1, h2, h3⟩, f0, f1, f2, f3⟩ := h
  refine ⟨⟨World.cell?_setCell_same _ _ _ h0, ?_, ?_, ?_⟩, by rw [World.frozen?_setCell]; exact f0, by rw [World.frozen?_setCell]; exact f1, by rw [World.frozen?_setCell]; exact f2, by rw [World.frozen?_setCell]; exact f3⟩
  all_goals (rw [World.cell?_setCell_other _ _ _ _ (by simp)]; assumption)
theorem Box4.set1 {w : World} {b : Nat} {v0 v1 v2 v3 : Value} (h : Box4 w b v0 v1 v2 v3) (u : Value) : Box4 (w.setCell ⟨b, 1, none⟩ u) b v0 u v2 v3 := by
  obtain ⟨⟨h0, h1, h2, h3⟩, f0, f1, f2, f3⟩ := h
  refine ⟨⟨?_, World.cell?_setCell_same _ _ _ h1, ?_, ?_⟩, by rw [World.frozen?_setCell]; exact f0, by rw [World.frozen?_setCell]; exact f1, by rw [World.frozen?_setCell]; exact f2, by rw [World.frozen?_setCell]; exact f3⟩
  all_goals (rw [World.cell?_setCell_other _ _ _ _ (by simp)]; assumption)
theorem Box4.set2 {w : World} {b : Nat} {v0 v1 v2 v3 : Value} (h : Box4 w b v0 v1 v2 v3) (u : Value) : Box4 (w.setCell ⟨b, 2, none⟩ u) b v0 v1 u v3 := by
  obtain ⟨⟨h0, h1, h2, h3⟩, f0, f1, f2, f3⟩ := h
  refine ⟨⟨?_, ?_, World.cell?_setCell_same _ _ _ h2, ?_⟩, by rw [World.frozen?_setCell]; exact f0, by rw [World.frozen?_setCell]; exact f1, by rw [World.frozen?_setCell]; exact f2, by rw [World.frozen?_setCell]; exact f3⟩
  all_goals (rw [World.cell?_setCell_other _ _ _ _ (by simp)]; assumption)
theorem Box4.set3 {w : World} {b : Nat} {v0 v1 v2 v3 : Value} (h : Box4 w b v0 v1 v2 v3) (u : Value) : Box4 (w.setCell ⟨b, 3, none⟩ u) b v0 v1 v2 u := by
  obtain ⟨⟨h0, h1, h2, h3⟩, f0, f1, f2, f3⟩ := h
  refine ⟨⟨?_, ?_, ?_, World.cell?_setCell_same _ _ _ h3⟩, by rw [World.frozen?_setCell]; exact f0, by rw [World.frozen?_setCell]; exact f1, by rw [World.frozen?_setCell]; exact f2, by rw [World.frozen?_setCell]; exact f3⟩
  all_goals (rw [World.cell?_setCell_other _ _ _ _ (by simp)]; assumption)
/-- while a plane is spoiled: the variable's four fields, the result's variable, the copied pixels -/
structure SpS (W w : World) (p : Nat) (a : Option Addr) (cap : Nat) (xs : List Int) (g k : Nat) (L : List Int) (v0 v1 v2 v3 : Value) (w' : World) : Prop where
  tape : TapeSome W w' p a cap xs
  grown : w.grownBy w' (some p)
  box : Box4 w' w.heap.size v0 v1 v2 v3
  op : Open4 w' (w.heap.size + 1)
  pix : PixAt w.heap.size w' g k L
  far : (¬ g = p ∧ w.heap.size + 1 < g) ∧ (p < w.heap.size ∧ W.heap.size ≤ w.heap.size)
theorem SpS.call {W w : World} {p : Nat} {a : Option Addr} {cap : Nat} {xs : List Int} {g k : Nat} {L : List Int} {v0 v1 v2 v3 : Value} {w1 w2 : World} (h : SpS W w p a cap xs g k L v0 v1 v2 v3 w1) (hT : TapeSome W w2 p a cap xs) (hg : w1.grownBy w2 (some p)) : SpS W w p a cap xs g k L v0 v1 v2 v3 w2 := by
  obtain ⟨⟨f1, f2⟩, f3, f4⟩ := h.far
  exact ⟨hT, gthen h.grown hg, h.box.grown hg (by simp; omega), h.op.grown hg (by simp; omega), h.pix.grown hg (by simpa using f1), h.far⟩
theorem SpS.alloc {W w : World} {p : Nat} {a : Option Addr} {cap : Nat} {xs : List Int} {g k : Nat} {L : List Int} {v0 v1 v2 v3 : Value} {w1 : World} (h : SpS W w p a cap xs g k L v0 v1 v2 v3 w1) (o : Obj) : SpS W w p a cap xs g k L v0 v1 v2 v3 (w1.alloc o) :=
  h.call (h.tape.alloc o) (galloc (gref w1 _) o)
/-- one field of the variable is written -/
theorem SpS.field {W w : World} {p : Nat} {a : Option Addr} {cap : Nat} {xs : List Int} {g k : Nat} {L : List Int} {v0 v1 v2 v3 : Value} {w1 : World} (h : SpS W w p a cap xs g k L v0 v1 v2 v3 w1) {j : Nat} {u u0 u1 u2 u3 : Value} (hb : Box4 (w1.setCell ⟨w.heap.size, j, none⟩ u) w.heap.size u0 u1 u2 u3) :
    SpS W w p a cap xs g k L u0 u1 u2 u3 (w1.setCell ⟨w.heap.size, j, none⟩ u) := by
  obtain ⟨⟨f1, f2⟩, f3, f4⟩ := h.far
  exact ⟨h.tape.grown (by omega) (by omega) _ _, gset h.grown (.inl (Nat.le_refl _)) _ _, hb, h.op.set _ _, h.pix.grown (grown_set _ _ _ _) (by simp; omega), h.far⟩
theorem spoil_end {W w : World} {p : Nat} {a : Option Addr} {cap : Nat} {xs : List Int} {g k : Nat} {L : List Int} {c h m : Int} {sl : Option Addr} {K : List Int} {k2 : Nat} {v0 v1 v2 v3 : Value} {w1 : World} (hS : SpS W w p a cap xs g k L v0 v1 v2 v3 w1)
    (hsl : SliceIs (put4 w1 (w.heap.size + 1) (.int .i64 c) (.int .i64 h) (.int .i64 m) (.slice sl K.length k2)) sl K) (hl : K.length ≤ 4097)
    (hc : -9223372036854775808 ≤ c ∧ c ≤ 9223372036854775807) (hh : -9223372036854775808 ≤ h ∧ h ≤ 9223372036854775807) (hm : -9223372036854775808 ≤ m ∧ m ≤ 9223372036854775807) (hfr : ∀ b o, sl = some ⟨b, o, none⟩ → w.heap.size ≤ b) :
    SpoilOf W p a cap xs w (.returned (.agg #[.int .i64 c, .int .i64 h, .int .i64 m, .slice sl K.length k2])) (put4 w1 (w.heap.size + 1) (.int .i64 c) (.int .i64 h) (.int .i64 m) (.slice sl K.length k2)) := by
  obtain ⟨⟨f1, f2⟩, f3, f4⟩ := hS.far
  exact ⟨c, h, m, K, sl, k2, rfl, hsl, hl, hc, hh, hm, hS.tape.put (by omega) (by omega) _ _ _ _, gput4 hS.grown (.inl (by omega)) _ _ _ _, hfr⟩
theorem spoil_pix {W w : World} {p : Nat} {a : Option Addr} {cap : Nat} {xs : List Int} {g k : Nat} {L : List Int} {v0 v1 v2 v3 u0 u1 u2 u3 : Value} {w1 : World} (hS : SpS W w p a cap xs g k L v0 v1 v2 v3 w1) : SliceIs (put4 w1 (w.heap.size + 1) u0 u1 u2 u3) (some ⟨g, 0, none⟩) L := by
  obtain ⟨⟨f1, f2⟩, f3, f4⟩ := hS.far
  exact (hS.pix.grown (gput4 (gref w1 (some (w.heap.size + 1))) (.inr rfl) u0 u1 u2 u3) (by simp; omega)).isS
theorem spoil_far {W w : World} {p : Nat} {a : Option Addr} {cap : Nat} {xs : List Int} {g k : Nat} {L : List Int} {v0 v1 v2 v3 : Value} {w1 : World} (hS : SpS W w p a cap xs g k L v0 v1 v2 v3 w1) : ∀ b o, (some ⟨g, 0, none⟩ : Option Addr) = some ⟨b, o, none⟩ → w.heap.size ≤ b := fun b o e => by
  simp at e
  have := hS.far
  omega
theorem three_kept {w : World} {cs ds es : Array Value} {t t' t'' : TypeId} {w1 : World} (hg : (((w.alloc (.cells cs t)).alloc (.cells ds t')).alloc (.cells es t'')).grownBy w1 (some (w.heap.size + 1 + 1))) :
    w1.heap[w.heap.size]? = some (.cells cs t) ∧ w1.heap[w.heap.size + 1]? = some (.cells ds t') := by
  have h0 := (MapKept.heap_alloc (w.alloc (.cells cs t)) (.cells ds t'))
  have h1 := (MapKept.heap_alloc ((w.alloc (.cells cs t)).alloc (.cells ds t')) (.cells es t''))
  constructor
  · rw [hg.block w.heap.size (by simp; omega) (by simp; omega), h1.2 w.heap.size (by simp; omega), h0.2 w.heap.size (by simp)]
    exact heap_alloc_new w _
  · rw [hg.block (w.heap.size + 1) (by simp) (by simp), h1.2 (w.heap.size + 1) (by simp)]
    have := heap_alloc_new (w.alloc (.cells cs t)) (.cells ds t')
    simpa using this
end Go.Proofs.Ytpmajophkhihlaa
