/- The tape's rectangle within a size, as a contract. -/
import Derived.Test.YtjmdpebocchdhaaDoorTapePick
import Derived.Test.YtjmdpebocchdhaaDoorAgg
namespace Go.Proofs.YtjmdpebocchdhaaDoor
open Go.ChangeShapes Go.WideShapes Go.ChangeAt Go.RowKit
set_option linter.unusedVariables false
set_option linter.unusedSimpArgs false

theorem TapeIn.drew {W w : World} {p : Nat} {a : Option Addr} {cap : Nat} {xs : List Int} {k : Nat} (h : TapeIn W w p a cap xs k) : TapeIn W w.drew p a cap xs k :=
  ⟨⟨h.below.os, h.below.tape, h.below.output, h.below.size, h.below.block⟩, h.lo, h.sl, h.fits, h.len, h.c0, h.c1, h.fz, h.le⟩
theorem gdrew {a w : World} {row : Option Nat} (h : a.grownBy w row) : a.grownBy w.drew row := ⟨h.os, h.tape, h.output, h.size, h.block⟩
theorem TapeIn.setq {W w : World} {p : Nat} {a : Option Addr} {cap : Nat} {xs : List Int} {k : Nat} (h : TapeIn W w p a cap xs k) {q : Nat} (hq : W.heap.size ≤ q) (hne : q ≠ p) (o : Nat) (u : Value) : TapeIn W (w.setCell ⟨q, o, none⟩ u) p a cap xs k :=
  h.keep (grown_set w q o u) (fun r e => by simp at e; subst e; exact ⟨hq, hne⟩)
/-- the tape at some place -/
def TapeSome (W w : World) (p : Nat) (a : Option Addr) (cap : Nat) (xs : List Int) : Prop := ∃ k, TapeIn W w p a cap xs k
theorem next_some (W : World) (p : Nat) (a : Option Addr) (cap : Nat) (xs : List Int) (n : Int) (w : World) (h : TapeSome W w p a cap xs) (h0 : 1 ≤ n) (h1 : n ≤ 9223372036854775807) :
    Calls Tryd.prog 9 #[.pointer (some ⟨p, 0, none⟩), .int .i64 n] w fun e w' => ∃ m : Int, e = .returned (.int .i64 m) ∧ (0 ≤ m ∧ m < n) ∧ TapeSome W w' p a cap xs ∧ w.grownBy w' (some p) := by
  obtain ⟨k, hk⟩ := h
  exact (next_any W p a cap xs k n w hk h0 h1).mono fun e w' ⟨m, k', he, hm, hT, hg⟩ => ⟨m, he, hm, ⟨k', hT⟩, hg⟩
/-- what a cell holds -/
def valAt (w : World) (q j : Nat) : Value := (w.cell? ⟨q, j, none⟩).getD undef
theorem open_val {w : World} {q : Nat} (h : Open4 w q) (j : Nat) (hj : j < 4) : w.cell? ⟨q, j, none⟩ = some (valAt w q j) := by
  obtain ⟨⟨u, hu⟩, _⟩ := h j hj
  simp [valAt, hu]
/-- a rectangle's variable of which two fields are known, beside a tape -/
abbrev WS (W w2 : World) (q p : Nat) (a : Option Addr) (cap : Nat) (xs : List Int) (m1 m2 : Int) (w' : World) : Prop :=
  Hid (TapeSome W w' p a cap xs) ∧ Hid (w2.grownBy w' (some p)) ∧ Hid (Open4 w' q) ∧ w'.cell? ⟨q, 0, none⟩ = some (.int .i64 m1) ∧ w'.cell? ⟨q, 1, none⟩ = some (.int .i64 m2) ∧
  w'.cell? ⟨q, 2, none⟩ = some (valAt w' q 2) ∧ w'.cell? ⟨q, 3, none⟩ = some (valAt w' q 3) ∧ w'.frozen? ⟨q, 2, none⟩ = false ∧ w'.frozen? ⟨q, 3, none⟩ = false
theorem ws_mk {W w2 : World} {q p : Nat} {a : Option Addr} {cap : Nat} {xs : List Int} {m1 m2 : Int} {w' : World} (hT : TapeSome W w' p a cap xs) (hg : w2.grownBy w' (some p)) (ho : Open4 w' q) (h0 : w'.cell? ⟨q, 0, none⟩ = some (.int .i64 m1)) (h1 : w'.cell? ⟨q, 1, none⟩ = some (.int .i64 m2)) :
    WS W w2 q p a cap xs m1 m2 w' :=
  ⟨Lib.hid hT, Lib.hid hg, Lib.hid ho, h0, h1, open_val ho 2 (by omega), open_val ho 3 (by omega), (ho 2 (by omega)).2, (ho 3 (by omega)).2⟩
theorem ws_call {W w2 : World} {q p : Nat} {a : Option Addr} {cap : Nat} {xs : List Int} {m1 m2 : Int} {w' w'' : World} (hne : ¬ q = p) (hT : TapeSome W w'' p a cap xs) (hg : w'.grownBy w'' (some p)) (h : WS W w2 q p a cap xs m1 m2 w') : WS W w2 q p a cap xs m1 m2 w'' := by
  obtain ⟨_, h2, h3, h4, h5, _⟩ := h
  exact ws_mk hT (gthen h2.out hg) (h3.out.grown hg (by simpa using hne)) (hg.cell h4 (by simpa using hne)) (hg.cell h5 (by simpa using hne))
theorem ws_set {W w2 : World} {q p : Nat} {a : Option Addr} {cap : Nat} {xs : List Int} {m1 m2 : Int} {w' : World} (hne : ¬ q = p) (hq : w2.heap.size ≤ q) (hW : W.heap.size ≤ q) {j : Nat} (hj : j = 2 ∨ j = 3) (v : Value) (h : WS W w2 q p a cap xs m1 m2 w') : WS W w2 q p a cap xs m1 m2 (w'.setCell ⟨q, j, none⟩ v) := by
  obtain ⟨h1, h2, h3, h4, h5, _⟩ := h
  obtain ⟨k, hk⟩ := h1.out
  refine ws_mk ⟨k, hk.setq hW hne j v⟩ (gset h2.out (.inl hq) _ _) (h3.out.set _ _) ?_ ?_
  · rw [World.cell?_setCell_other _ _ _ _ (by rcases hj with rfl | rfl <;> simp)]; exact h4
  · rw [World.cell?_setCell_other _ _ _ _ (by rcases hj with rfl | rfl <;> simp)]; exact h5
theorem Open4.drew {w : World} {q : Nat} (h : Open4 w q) : Open4 w.drew q := fun k hk => h k hk
theorem set23 {w : World} {q : Nat} (h : Open4 w q) (u v : Value) : ((w.setCell ⟨q, 2, none⟩ u).setCell ⟨q, 3, none⟩ v).cell? ⟨q, 2, none⟩ = some u ∧ ((w.setCell ⟨q, 2, none⟩ u).setCell ⟨q, 3, none⟩ v).cell? ⟨q, 3, none⟩ = some v := by
  obtain ⟨x2, h2⟩ := (h 2 (by omega)).1
  obtain ⟨x3, h3⟩ := ((h.set ⟨q, 2, none⟩ u) 3 (by omega)).1
  refine ⟨?_, World.cell?_setCell_same _ _ _ h3⟩
  rw [World.cell?_setCell_other _ _ _ _ (by simp)]
  exact World.cell?_setCell_same _ _ _ h2
/-- a rectangle within a size came back, and beside new blocks the tape's alone has changed -/
def WithinPost (W : World) (p : Nat) (a : Option Addr) (cap : Nat) (xs : List Int) (ww hh : Int) (w : World) (e : Ending) (w' : World) : Prop :=
  ∃ (x0 y0 x1 y1 : Int) (k : Nat), e = .returned (.agg #[.int .i64 x0, .int .i64 y0, .int .i64 x1, .int .i64 y1]) ∧ (0 ≤ x0 ∧ x0 < x1 ∧ x1 ≤ ww) ∧ (0 ≤ y0 ∧ y0 < y1 ∧ y1 ≤ hh) ∧ TapeIn W w' p a cap xs k ∧ w.grownBy w' (some p)
end Go.Proofs.YtjmdpebocchdhaaDoor
