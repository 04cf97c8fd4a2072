/- A walk's state with a tape, for regions that draw their order around calls of the tape: variables of two and of four cells that are made at any time. -/
import Derived.Test.YtibmoibhbgbfoaaPSized
import Derived.Test.YtibmoibhbgbfoaaWeights
import Derived.Test.YtibmoibhbgbfoaaWithin
import Derived.Test.YtibmoibhbgbfoaaRect
import Derived.Test.YtibmoibhbgbfoaaQuietIn
import Derived.Test.YtibmoibhbgbfoaaList
import Derived.Test.YtibmoibhbgbfoaaLaw
import Derived.Deep.DeepMust
import Derived.Deep.DeepCutAuto
namespace Go.Proofs.Ytibmoibhbgbfoaa
open Go.ChangeShapes Go.WideShapes Go.ChangeAt Go.RowKit
set_option linter.unusedVariables false
set_option linter.unusedSimpArgs false

theorem St.start {a : Option Addr} {cap : Nat} {xs : List Int} {W w : World} (h : TapeIn W w W.heap.size a cap xs 0) : St W W.heap.size a cap xs [] w := ⟨⟨0, h⟩, h.below, En.nil _ _ _⟩
theorem plane_pos {W H M : Int} {L : List Int} (h : planeB W H M L = true) : 1 ≤ L.length := by
  obtain ⟨hs, hl, _⟩ := planeB_t.1 h
  obtain ⟨⟨w1, w2⟩, ⟨h1, h2⟩, _⟩ := sizeB_t.1 hs
  have := (prod_bd w1 w2 h1 h2).1
  omega
theorem within_some (W : World) (p : Nat) (a : Option Addr) (cap : Nat) (xs : List Int) (ww hh : Int) (w : World) (h : TapeSome W w p a cap xs) (h0 : 1 ≤ ww) (h1 : ww ≤ 4611686018427387903) (h2 : 1 ≤ hh) (h3 : hh ≤ 4611686018427387903) :
    Calls Try.prog 17 #[.pointer (some ⟨p, 0, none⟩), .int .i64 ww, .int .i64 hh] w fun e w' =>
      ∃ (x0 y0 x1 y1 : Int), e = .returned (.agg #[.int .i64 x0, .int .i64 y0, .int .i64 x1, .int .i64 y1]) ∧ (0 ≤ x0 ∧ x0 < x1 ∧ x1 ≤ ww) ∧ (0 ≤ y0 ∧ y0 < y1 ∧ y1 ≤ hh) ∧ TapeSome W w' p a cap xs ∧ w.grownBy w' (some p) := by
  obtain ⟨k, hk⟩ := h
  exact (within_any W p a cap xs k ww hh w hk h0 h1 h2 h3).mono fun e w' ⟨x0, y0, x1, y1, k', he, hx, hy, hT, hg⟩ => ⟨x0, y0, x1, y1, he, hx, hy, ⟨k', hT⟩, hg⟩
section
variable {W : World} {p : Nat} {a : Option Addr} {cap : Nat} {xs : List Int} {l : List Th} {w w' : World}
theorem En.new2 {base : Nat} {q : Option Nat} (h : En base q l w) (v0 v1 : Value) (t : TypeId) (hb : base ≤ w.heap.size) (hp : some w.heap.size ≠ q) : En base q (.two w.heap.size v0 v1 :: l) (w.alloc (.cells #[v0, v1] t)) :=
  (h.below (balloc (bref w) _)).cons (show Box2 _ _ _ _ from ⟨⟨by simp [World.cell?_alloc_new], by simp [World.cell?_alloc_new]⟩, by simp, by simp⟩) ⟨hb, hp⟩ (fun y hy => by have := h.lt y hy; show ¬ w.heap.size = y.blk; omega)
theorem St.new2 (h : St W p a cap xs l w) (v0 v1 : Value) (t : TypeId) : St W p a cap xs (.two w.heap.size v0 v1 :: l) (w.alloc (.cells #[v0, v1] t)) :=
  ⟨h.tape.more (balloc (bref w) _), balloc h.below _, h.en.new2 v0 v1 t h.below.size (by have := h.tape.lt.1; simp; omega)⟩
theorem En.two {base : Nat} {q : Option Nat} (h : En base q l w) (b : Nat) {v0 v1 : Value} (hx : Th.two b v0 v1 ∈ l) : w.cell? ⟨b, 0, none⟩ = some v0 ∧ w.cell? ⟨b, 1, none⟩ = some v1 := (h.ok _ hx).1
theorem St.set2 {b : Nat} {v0 v1 : Value} (h : St W p a cap xs (.two b v0 v1 :: l) w) (u0 u1 : Value) : St W p a cap xs (.two b u0 u1 :: l) ((w.setCell ⟨b, 0, none⟩ u0).setCell ⟨b, 1, none⟩ u1) := by
  have hf := h.en.far _ (List.mem_cons_self ..)
  have hf2 : ¬ b = p := by simpa [Th.blk] using hf.2
  have hf1 : W.heap.size ≤ b := hf.1
  have hn := h.en.head
  have hg : w.grownBy ((w.setCell ⟨b, 0, none⟩ u0).setCell ⟨b, 1, none⟩ u1) (some b) := gset (gset (gref w (some b)) (.inr rfl) _ _) (.inr rfl) _ _
  obtain ⟨⟨k0, k1⟩, f0, f1⟩ := (show Box2 w b v0 v1 from h.en.ok _ (List.mem_cons_self ..))
  have hb2 : Box2 ((w.setCell ⟨b, 0, none⟩ u0).setCell ⟨b, 1, none⟩ u1) b u0 u1 := by
    refine ⟨⟨?_, ?_⟩, by simp only [World.frozen?_setCell]; exact f0, by simp only [World.frozen?_setCell]; exact f1⟩
    · rw [World.cell?_setCell_other _ _ _ _ (by simp)]; exact World.cell?_setCell_same _ _ _ k0
    · exact World.cell?_setCell_same _ _ _ (show (w.setCell ⟨b, 0, none⟩ u0).cell? ⟨b, 1, none⟩ = some v1 by rw [World.cell?_setCell_other _ _ _ _ (by simp)]; exact k1)
  exact ⟨(h.tape.grown hf1 hf2 _ _).grown hf1 hf2 _ _, (h.below.setCell hf1 _).setCell hf1 _, En.cons (h.en.tail.row hg (fun x hx e => hn x hx e.symm)) hb2 hf hn⟩
theorem St.setbox {b : Nat} {v0 v1 v2 v3 : Value} (h : St W p a cap xs (.box b v0 v1 v2 v3 :: l) w) (u0 u1 u2 u3 : Value) : St W p a cap xs (.box b u0 u1 u2 u3 :: l) (put4 w b u0 u1 u2 u3) := by
  have hf := h.en.far _ (List.mem_cons_self ..)
  have hf2 : ¬ b = p := by simpa [Th.blk] using hf.2
  exact St.put ⟨h.tape, h.below, h.en.tail⟩ (Box4.op (h.en.ok _ (List.mem_cons_self ..))) hf.1 hf2 (fun x hx e => h.en.head x hx e.symm) _ _ _ _
theorem St.drewn (h : St W p a cap xs l w) : St W p a cap xs l w.drew := h.call (bdrewN (bref w) 1)
theorem St.drop (h : St W p a cap xs l w) (n : Nat) : St W p a cap xs (l.drop n) w :=
  ⟨h.tape, h.below, ⟨fun x hx => h.en.ok x (List.mem_of_mem_drop hx), fun x hx => h.en.far x (List.mem_of_mem_drop hx), h.en.nd.drop⟩⟩
/-- four cells are read, and hidden all the rest: what a class of worlds says while such a region runs -/
abbrev B4 (b : Nat) (v0 v1 v2 v3 : Value) (w : World) : Prop := w.cell? ⟨b, 0, none⟩ = some v0 ∧ w.cell? ⟨b, 1, none⟩ = some v1 ∧ w.cell? ⟨b, 2, none⟩ = some v2 ∧ w.cell? ⟨b, 3, none⟩ = some v3
end
theorem b4_below {b : Nat} {v0 v1 v2 v3 : Value} {w w' : World} (h : B4 b v0 v1 v2 v3 w) (hb : Below w.heap.size w w') : B4 b v0 v1 v2 v3 w' := ⟨bkeep hb h.1, bkeep hb h.2.1, bkeep hb h.2.2.1, bkeep hb h.2.2.2⟩
theorem is_grown2 {w w' : World} {sl : Option Addr} {K : List Int} {row : Option Nat} (h : SliceIs w sl K) (hg : w.grownBy w' row) (hf : ∀ b o, sl = some ⟨b, o, none⟩ → some b ≠ row) : SliceIs w' sl K := fun k hk => by
  obtain ⟨b, off, e, hc⟩ := h k hk
  exact ⟨b, off, e, hg.cell hc (hf b off e)⟩
theorem down_by {m k : Nat} (h : k < m) : m - (intOf (.int .i64 ((k : Int) + 1))).toNat < m - (intOf (.int .i64 (k : Int))).toNat := by simp [intOf]; omega
theorem wrap_in (n : Int) (h0 : -9223372036854775808 ≤ n) (h1 : n ≤ 9223372036854775807) : wrap64 n = n := by unfold wrap64; omega
/-- two rectangles one behind the other -/
abbrev B8 (b : Nat) (x0 x1 x2 x3 y0 y1 y2 y3 : Int) (w : World) : Prop := ∀ j, j < 8 → w.cell? ⟨b, j, none⟩ = some (.int .i64 ([x0, x1, x2, x3, y0, y1, y2, y3].getD j 0))
theorem new8 (w : World) (x0 x1 x2 x3 y0 y1 y2 y3 : Int) (t : TypeId) : B8 w.heap.size x0 x1 x2 x3 y0 y1 y2 y3 (w.alloc (.cells #[.int .i64 x0, .int .i64 x1, .int .i64 x2, .int .i64 x3, .int .i64 y0, .int .i64 y1, .int .i64 y2, .int .i64 y3] t)) := by
  intro j hj
  rw [World.cell?_alloc_new]
  rcases (show j = 0 ∨ j = 1 ∨ j = 2 ∨ j = 3 ∨ j = 4 ∨ j = 5 ∨ j = 6 ∨ j = 7 by omega) with rfl | rfl | rfl | rfl | rfl | rfl | rfl | rfl <;> rfl
theorem b8_grown {b : Nat} {x0 x1 x2 x3 y0 y1 y2 y3 : Int} {w w' : World} {p : Nat} (h : B8 b x0 x1 x2 x3 y0 y1 y2 y3 w) (hg : w.grownBy w' (some p)) (hne : ¬ b = p) : B8 b x0 x1 x2 x3 y0 y1 y2 y3 w' := fun j hj => hg.cell (h j hj) (by simpa using hne)
theorem b8_at {b : Nat} {x0 x1 x2 x3 y0 y1 y2 y3 : Int} {w : World} (h : B8 b x0 x1 x2 x3 y0 y1 y2 y3 w) {k : Nat} (hk : k < 2) : ∃ z0 z1 z2 z3 : Int, w.cell? ⟨b, k * 4, none⟩ = some (.int .i64 z0) ∧ w.cell? ⟨b, k * 4 + 1, none⟩ = some (.int .i64 z1) ∧ w.cell? ⟨b, k * 4 + 2, none⟩ = some (.int .i64 z2) ∧ w.cell? ⟨b, k * 4 + 3, none⟩ = some (.int .i64 z3) :=
  ⟨_, _, _, _, h (k * 4) (by omega), h (k * 4 + 1) (by omega), h (k * 4 + 2) (by omega), h (k * 4 + 3) (by omega)⟩
/-- the class of the worlds of which S holds -/
abbrev InW (S : World → Prop) : World → Prop := fun w' => ∃ s : In S, w' = s.w
/-- the way through a region as a letter: what is done in different orders meets in one statement -/
theorem wp_dag {P : Program} {md : Region.Mode} {ops : Array Oper} {Q : Exit → Act → World → Prop} {S : World → Prop} {n : Nat} {l : Array Bool} {a : Act} {w : World}
    (h : ∀ F : Nat → Array Bool → Act → World → Prop, Hid (∀ n l a w, wpAnyH P md ops Q S n l a w → F n l a w) → Hid (∀ n l a w, F n l a w → wpAnyH P md ops Q S n l a w) → F n l a w) : wpAnyH P md ops Q S n l a w :=
  h (wpAnyH P md ops Q S) (Lib.hid fun _ _ _ _ h => h) (Lib.hid fun _ _ _ _ h => h)
/-- where weights of at least one number lie -/
theorem wt_row {W : World} {p : Nat} {a : Option Addr} {cap : Nat} {xs : List Int} {n : Int} {w : World} {e : Ending} {w' : World} (h : WtPost W p a cap xs n w e w') (hn : 1 ≤ n) : ∃ (g c : Nat) (L : List Int), e = .returned (.slice (some ⟨g, 0, none⟩) L.length c) ∧ (L.length : Int) = n ∧ Small L ∧ PixAt w.heap.size w' g c L ∧ TapeSome W w' p a cap xs ∧ w.grownBy w' (some p) := by
  obtain ⟨v, L, rfl, hl, hT, hg, hO, hS⟩ := h
  rcases hO.2 with ⟨rfl, hz⟩ | ⟨g, c, cur, rfl, _⟩
  · omega
  · exact ⟨g, c, L, rfl, by omega, hS, hO, hT, hg⟩
end Go.Proofs.Ytibmoibhbgbfoaa
