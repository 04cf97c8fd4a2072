/- A walk's state with a tape and a slice of whatever block; variables of two cells. -/
import Derived.Test.YtpmajophkhihlaaPLawKit
import Derived.Test.YtpmajophkhihlaaPSpoilB
namespace Go.Proofs.Ytpmajophkhihlaa
open Go.ChangeShapes Go.WideShapes Go.ChangeAt Go.RowKit
set_option linter.unusedVariables false
set_option linter.unusedSimpArgs false

theorem is_grown {w w' : World} {sl : Option Addr} {K : List Int} {row : Option Nat} (h : SliceIs w sl K) (hg : w.grownBy w' row) (hf : ∀ b o, sl = some ⟨b, o, none⟩ → some b ≠ row) : SliceIs w' sl K := fun k hk => by
  obtain ⟨b, off, e, hc⟩ := h k hk
  exact ⟨b, off, e, hg.cell hc (hf b off e)⟩
structure Sr (W : World) (p : Nat) (a : Option Addr) (cap : Nat) (xs : List Int) (l : List Th) (sl : Option Addr) (K : List Int) (w : World) : Prop where
  st : St W p a cap xs l w
  isl : SliceIs w sl K
  far : ∀ b o, sl = some ⟨b, o, none⟩ → ¬ b = p
section
variable {W : World} {p : Nat} {a : Option Addr} {cap : Nat} {xs : List Int} {l : List Th} {sl : Option Addr} {K : List Int} {w w' : World}
theorem Sr.call (h : Sr W p a cap xs l sl K w) (hb : Below w.heap.size w w') : Sr W p a cap xs l sl K w' := ⟨h.st.call hb, is_below h.isl hb, h.far⟩
theorem Sr.draw (h : Sr W p a cap xs l sl K w) (hT : TapeSome W w' p a cap xs) (hg : w.grownBy w' (some p)) : Sr W p a cap xs l sl K w' := ⟨h.st.draw hT hg, is_grown h.isl hg (fun b o e => by simpa using h.far b o e), h.far⟩
theorem En.new2 {base : Nat} {q : Option Nat} (h : En base q l w) (v0 v1 : Value) (t : TypeId) (hb : base ≤ w.heap.size) (hp : some w.heap.size ≠ q) : En base q (.two w.heap.size v0 v1 :: l) (w.alloc (.cells #[v0, v1] t)) :=
  (h.below (balloc (bref w) _)).cons (show Box2 _ _ _ _ from ⟨⟨by simp [World.cell?_alloc_new], by simp [World.cell?_alloc_new]⟩, by simp, by simp⟩) ⟨hb, hp⟩ (fun y hy => by have := h.lt y hy; show ¬ w.heap.size = y.blk; omega)
theorem St.new2 (h : St W p a cap xs l w) (v0 v1 : Value) (t : TypeId) : St W p a cap xs (.two w.heap.size v0 v1 :: l) (w.alloc (.cells #[v0, v1] t)) :=
  ⟨h.tape.more (balloc (bref w) _), balloc h.below _, h.en.new2 v0 v1 t h.below.size (by have := h.tape.lt.1; simp; omega)⟩
theorem Sr.new2 (h : Sr W p a cap xs l sl K w) (v0 v1 : Value) (t : TypeId) : Sr W p a cap xs (.two w.heap.size v0 v1 :: l) sl K (w.alloc (.cells #[v0, v1] t)) := ⟨h.st.new2 v0 v1 t, is_below h.isl (balloc (bref w) _), h.far⟩
theorem En.two {base : Nat} {q : Option Nat} (h : En base q l w) (b : Nat) {v0 v1 : Value} (hx : Th.two b v0 v1 ∈ l) : w.cell? ⟨b, 0, none⟩ = some v0 ∧ w.cell? ⟨b, 1, none⟩ = some v1 := (h.ok _ hx).1
theorem Sr.set2 {b : Nat} {v0 v1 : Value} (h : Sr W p a cap xs (.two b v0 v1 :: l) sl K w) (hlt : ∀ k, k < K.length → ∃ b' o, sl = some ⟨b', o, none⟩ ∧ ¬ b' = b) (u0 u1 : Value) : Sr W p a cap xs (.two b u0 u1 :: l) sl K ((w.setCell ⟨b, 0, none⟩ u0).setCell ⟨b, 1, none⟩ u1) := by
  have hf := h.st.en.far _ (List.mem_cons_self ..)
  have hf2 : ¬ b = p := by simpa [Th.blk] using hf.2
  have hf1 : W.heap.size ≤ b := hf.1
  have hn := h.st.en.head
  have hg : w.grownBy ((w.setCell ⟨b, 0, none⟩ u0).setCell ⟨b, 1, none⟩ u1) (some b) := gset (gset (gref w (some b)) (.inr rfl) _ _) (.inr rfl) _ _
  obtain ⟨⟨k0, k1⟩, f0, f1⟩ := (show Box2 w b v0 v1 from h.st.en.ok _ (List.mem_cons_self ..))
  have hb2 : Box2 ((w.setCell ⟨b, 0, none⟩ u0).setCell ⟨b, 1, none⟩ u1) b u0 u1 := by
    refine ⟨⟨?_, ?_⟩, by simp only [World.frozen?_setCell]; exact f0, by simp only [World.frozen?_setCell]; exact f1⟩
    · rw [World.cell?_setCell_other _ _ _ _ (by simp)]; exact World.cell?_setCell_same _ _ _ k0
    · exact World.cell?_setCell_same _ _ _ (show (w.setCell ⟨b, 0, none⟩ u0).cell? ⟨b, 1, none⟩ = some v1 by rw [World.cell?_setCell_other _ _ _ _ (by simp)]; exact k1)
  refine ⟨⟨(h.st.tape.grown hf1 hf2 _ _).grown hf1 hf2 _ _, (h.st.below.setCell hf1 _).setCell hf1 _, En.cons (h.st.en.tail.row hg (fun x hx e => hn x hx e.symm)) hb2 hf hn⟩, fun k hk => ?_, h.far⟩
  obtain ⟨b', o, e, hne⟩ := hlt k hk
  obtain ⟨b2, off, e2, hc⟩ := h.isl k hk
  rw [e] at e2
  simp at e2
  obtain ⟨rfl, rfl⟩ := e2
  exact ⟨b', o, e, hg.cell hc (by simpa using hne)⟩
theorem Sr.drop (h : Sr W p a cap xs l sl K w) (n : Nat) : Sr W p a cap xs (l.drop n) sl K w := ⟨h.st.drop n, h.isl, h.far⟩
/-- a plane's box and an edge's pair that are read, and hidden all the rest -/
abbrev AtS (W : World) (p : Nat) (a : Option Addr) (cap : Nat) (xs : List Int) (l : List Th) (sl : Option Addr) (K : List Int) (b1 : Nat) (s0 s1 s2 s3 : Value) (b2 : Nat) (t0 t1 : Value) (w' : World) : Prop :=
  Hid (Sr W p a cap xs l sl K w' ∧ Th.box b1 s0 s1 s2 s3 ∈ l ∧ Th.two b2 t0 t1 ∈ l) ∧ C4 w' b1 s0 s1 s2 s3 ∧ w'.cell? ⟨b2, 0, none⟩ = some t0 ∧ w'.cell? ⟨b2, 1, none⟩ = some t1
theorem atS_of {b1 : Nat} {s0 s1 s2 s3 : Value} {b2 : Nat} {t0 t1 : Value} (h : Sr W p a cap xs l sl K w) (h1 : Th.box b1 s0 s1 s2 s3 ∈ l) (h2 : Th.two b2 t0 t1 ∈ l) : AtS W p a cap xs l sl K b1 s0 s1 s2 s3 b2 t0 t1 w :=
  ⟨Lib.hid ⟨h, h1, h2⟩, h.st.en.box b1 h1, h.st.en.two b2 h2⟩
theorem atS_below {b1 : Nat} {s0 s1 s2 s3 : Value} {b2 : Nat} {t0 t1 : Value} (hb : Below w.heap.size w w') (h : AtS W p a cap xs l sl K b1 s0 s1 s2 s3 b2 t0 t1 w) : AtS W p a cap xs l sl K b1 s0 s1 s2 s3 b2 t0 t1 w' :=
  atS_of (h.1.out.1.call hb) h.1.out.2.1 h.1.out.2.2
end
theorem pat_is {W H M : Int} {L : List Int} {q f x y v : Int} (e : atN W H M L q f x y = v) (a : Option Addr) (cap : Nat) (w : World) (hs : SliceIs w a L) (hl : L.length ≤ 9223372036854775807) (hx : -9223372036854775808 ≤ x ∧ x ≤ 9223372036854775807) (hy : -9223372036854775808 ≤ y ∧ y ≤ 9223372036854775807) :
    Calls Try.prog 26 #[.agg #[.int .i64 W, .int .i64 H, .int .i64 M, .slice a L.length cap], .agg #[.int .i64 q, .int .i64 f], .int .i64 x, .int .i64 y] w (NumPost v w) := e ▸ pat_any W H M L a cap q f x y w hs hl hx.1 hx.2 hy.1 hy.2
theorem rat_is {W H M : Int} {L : List Int} {q f x y v : Int} (e : atN W H M L q f x y = v) (a : Option Addr) (cap : Nat) (w : World) (hs : SliceIs w a L) (hl : L.length ≤ 9223372036854775807) (hx : -9223372036854775808 ≤ x ∧ x ≤ 9223372036854775807) (hy : -9223372036854775808 ≤ y ∧ y ≤ 9223372036854775807) :
    Calls Try.prog 27 #[.agg #[.int .i64 W, .int .i64 H, .int .i64 M, .slice a L.length cap], .agg #[.int .i64 q, .int .i64 f], .int .i64 x, .int .i64 y] w (NumPost v w) := e ▸ rat_any W H M L a cap q f x y w hs hl hx.1 hx.2 hy.1 hy.2
end Go.Proofs.Ytpmajophkhihlaa
