/- What lies in memory in the middle of a walk: boxes of four cells, pairs, rows of pixels; kept by calls. -/
import Derived.Test.YtpmajophkhihlaaPSpoil
namespace Go.Proofs.Ytpmajophkhihlaa
open Go.ChangeShapes Go.WideShapes Go.ChangeAt Go.RowKit
set_option linter.unusedVariables false
set_option linter.unusedSimpArgs false

/-- a thing that lies in a block of its own -/
inductive Th where
  | box (b : Nat) (v0 v1 v2 v3 : Value)
  | two (b : Nat) (v0 v1 : Value)
  | pix (g cap : Nat) (L : List Int)
def Th.blk : Th → Nat
  | .box b _ _ _ _ => b
  | .two b _ _ => b
  | .pix g _ _ => g
def Box2 (w : World) (b : Nat) (v0 v1 : Value) : Prop := (w.cell? ⟨b, 0, none⟩ = some v0 ∧ w.cell? ⟨b, 1, none⟩ = some v1) ∧ (w.frozen? ⟨b, 0, none⟩ = false ∧ w.frozen? ⟨b, 1, none⟩ = false)
theorem Box2.grown {w w' : World} {b : Nat} {v0 v1 : Value} {row : Option Nat} (h : Box2 w b v0 v1) (hg : w.grownBy w' row) (hne : some b ≠ row) : Box2 w' b v0 v1 := by
  obtain ⟨⟨h0, h1⟩, f0, f1⟩ := h
  have hl := World.block_lt_of_cell? _ _ h0
  refine ⟨⟨hg.cell h0 hne, hg.cell h1 hne⟩, ?_, ?_⟩
  · rw [hg.frozen_far ⟨b, 0, none⟩ hl hne]; exact f0
  · rw [hg.frozen_far ⟨b, 1, none⟩ hl hne]; exact f1
def Th.ok (base : Nat) (w : World) : Th → Prop
  | .box b v0 v1 v2 v3 => Box4 w b v0 v1 v2 v3
  | .two b v0 v1 => Box2 w b v0 v1
  | .pix g cap L => PixAt base w g cap L
theorem Th.ok.grown {base : Nat} {w w' : World} {row : Option Nat} {x : Th} (h : x.ok base w) (hg : w.grownBy w' row) (hne : some x.blk ≠ row) : x.ok base w' := by
  cases x with
  | box b v0 v1 v2 v3 => exact Box4.grown h hg hne
  | two b v0 v1 => exact Box2.grown h hg hne
  | pix g cap L => exact PixAt.grown h hg hne
structure En (base : Nat) (p : Option Nat) (l : List Th) (w : World) : Prop where
  ok : ∀ x ∈ l, Th.ok base w x
  far : ∀ x ∈ l, base ≤ x.blk ∧ some x.blk ≠ p
  nd : l.Pairwise (fun x y => ¬ x.blk = y.blk)
theorem En.nil (base : Nat) (p : Option Nat) (w : World) : En base p [] w := ⟨fun _ h => by simp at h, fun _ h => by simp at h, .nil⟩
theorem En.grown {base : Nat} {p : Option Nat} {l : List Th} {w w' : World} (h : En base p l w) (hg : w.grownBy w' p) : En base p l w' := ⟨fun x hx => (h.ok x hx).grown hg (h.far x hx).2, h.far, h.nd⟩
theorem En.below {base : Nat} {p : Option Nat} {l : List Th} {w w' : World} (h : En base p l w) (hb : Below w.heap.size w w') : En base p l w' := ⟨fun x hx => (h.ok x hx).grown (bgrown hb none) (by simp), h.far, h.nd⟩
theorem En.row {base : Nat} {p : Option Nat} {l : List Th} {w w' : World} {g : Nat} (h : En base p l w) (hg : w.grownBy w' (some g)) (hne : ∀ x ∈ l, ¬ x.blk = g) : En base p l w' := ⟨fun x hx => (h.ok x hx).grown hg (by simpa using hne x hx), h.far, h.nd⟩
theorem En.cons {base : Nat} {p : Option Nat} {l : List Th} {w : World} {x : Th} (h : En base p l w) (hx : x.ok base w) (hf : base ≤ x.blk ∧ some x.blk ≠ p) (hn : ∀ y ∈ l, ¬ x.blk = y.blk) : En base p (x :: l) w :=
  ⟨fun y hy => (List.mem_cons.1 hy).elim (fun e => e ▸ hx) (h.ok y), fun y hy => (List.mem_cons.1 hy).elim (fun e => e ▸ hf) (h.far y), List.pairwise_cons.2 ⟨hn, h.nd⟩⟩
theorem En.tail {base : Nat} {p : Option Nat} {l : List Th} {w : World} {x : Th} (h : En base p (x :: l) w) : En base p l w := ⟨fun y hy => h.ok y (List.mem_cons_of_mem _ hy), fun y hy => h.far y (List.mem_cons_of_mem _ hy), (List.pairwise_cons.1 h.nd).2⟩
theorem En.head {base : Nat} {p : Option Nat} {l : List Th} {w : World} {x : Th} (h : En base p (x :: l) w) : ∀ y ∈ l, ¬ x.blk = y.blk := (List.pairwise_cons.1 h.nd).1
theorem En.perm {base : Nat} {p : Option Nat} {l l' : List Th} {w : World} (h : En base p l w) (hp : l.Perm l') : En base p l' w :=
  ⟨fun y hy => h.ok y (hp.mem_iff.2 hy), fun y hy => h.far y (hp.mem_iff.2 hy), hp.pairwise h.nd (fun h e => h e.symm)⟩
theorem perm_pull {l l' : List Th} {x : Th} (n : Nat) (hl : l[n]? = some x) (he : l.eraseIdx n = l') : l.Perm (x :: l') := by
  subst he
  obtain ⟨hn, e⟩ := List.getElem?_eq_some_iff.1 hl
  subst e
  have e2 : l = l.take n ++ l[n] :: l.drop (n + 1) := by rw [List.getElem_cons_drop, List.take_append_drop]
  rw [List.eraseIdx_eq_take_drop_succ]
  exact (List.Perm.of_eq e2).trans List.perm_middle
theorem En.lt {base : Nat} {p : Option Nat} {l : List Th} {w : World} (h : En base p l w) : ∀ x ∈ l, x.blk < w.heap.size := fun x hx => by
  have hk := h.ok x hx
  cases x with
  | box b v0 v1 v2 v3 => exact World.block_lt_of_cell? _ _ hk.1.1
  | two b v0 v1 => exact World.block_lt_of_cell? _ _ hk.1.1
  | pix g cap L => exact (PixAt.lt hk).2
theorem En.new {base : Nat} {p : Option Nat} {l : List Th} {w : World} (h : En base p l w) (v0 v1 v2 v3 : Value) (t : TypeId) (hb : base ≤ w.heap.size) (hp : some w.heap.size ≠ p) : En base p (.box w.heap.size v0 v1 v2 v3 :: l) (w.alloc (.cells #[v0, v1, v2, v3] t)) :=
  (h.below (balloc (bref w) _)).cons (Box4.of (heap_alloc_new w _)) ⟨hb, hp⟩ (fun y hy => by have := h.lt y hy; show ¬ w.heap.size = y.blk; omega)
theorem En.box {base : Nat} {p : Option Nat} {l : List Th} {w : World} (h : En base p l w) (b : Nat) {v0 v1 v2 v3 : Value} (hx : Th.box b v0 v1 v2 v3 ∈ l) : w.cell? ⟨b, 0, none⟩ = some v0 ∧ w.cell? ⟨b, 1, none⟩ = some v1 ∧ w.cell? ⟨b, 2, none⟩ = some v2 ∧ w.cell? ⟨b, 3, none⟩ = some v3 := (h.ok _ hx).1
theorem En.pix {base : Nat} {p : Option Nat} {l : List Th} {w : World} (h : En base p l w) (g cap : Nat) {L : List Int} (hx : Th.pix g cap L ∈ l) : PixAt base w g cap L := h.ok _ hx
theorem En.isS {base : Nat} {p : Option Nat} {l : List Th} {w : World} (h : En base p l w) (g cap : Nat) {L : List Int} (hx : Th.pix g cap L ∈ l) : SliceIs w (some ⟨g, 0, none⟩) L := (h.pix g cap hx).isS
/-- a walk's state: things, and nothing old has changed -/
structure Sn (W : World) (l : List Th) (w : World) : Prop where
  below : Below W.heap.size W w
  en : En W.heap.size none l w
theorem Sn.start (W : World) : Sn W [] W := ⟨bref W, En.nil _ _ _⟩
theorem Sn.call {W : World} {l : List Th} {w w' : World} (h : Sn W l w) (hb : Below w.heap.size w w') : Sn W l w' := ⟨bthen h.below hb, h.en.below hb⟩
theorem Sn.new {W : World} {l : List Th} {w : World} (h : Sn W l w) (v0 v1 v2 v3 : Value) (t : TypeId) : Sn W (.box w.heap.size v0 v1 v2 v3 :: l) (w.alloc (.cells #[v0, v1, v2, v3] t)) := ⟨balloc h.below _, h.en.new v0 v1 v2 v3 t h.below.size (by simp)⟩
theorem Sn.made {W : World} {l : List Th} {w w' : World} (h : Sn W l w) {g cap : Nat} {L : List Int} (hp : PixAt w.heap.size w' g cap L) (hb : Below w.heap.size w w') : Sn W (.pix g cap L :: l) w' :=
  ⟨bthen h.below hb, (h.en.below hb).cons (hp.base h.below.size) ⟨Nat.le_trans h.below.size hp.lt.1, by simp⟩ (fun y hy => by have := h.en.lt y hy; have := hp.lt; show ¬ g = y.blk; omega)⟩
/-- a walk's state with a tape -/
structure St (W : World) (p : Nat) (a : Option Addr) (cap : Nat) (xs : List Int) (l : List Th) (w : World) : Prop where
  tape : TapeSome W w p a cap xs
  below : Below W.heap.size W w
  en : En W.heap.size (some p) l w
theorem St.call {W : World} {p : Nat} {a : Option Addr} {cap : Nat} {xs : List Int} {l : List Th} {w w' : World} (h : St W p a cap xs l w) (hb : Below w.heap.size w w') : St W p a cap xs l w' := ⟨h.tape.more hb, bthen h.below hb, h.en.below hb⟩
theorem St.draw {W : World} {p : Nat} {a : Option Addr} {cap : Nat} {xs : List Int} {l : List Th} {w w' : World} (h : St W p a cap xs l w) (hT : TapeSome W w' p a cap xs) (hg : w.grownBy w' (some p)) : St W p a cap xs l w' :=
  ⟨hT, h.below.grown hg h.below.size (fun k e => by simp at e; subst e; exact h.tape.lt.2.1), h.en.grown hg⟩
theorem St.new {W : World} {p : Nat} {a : Option Addr} {cap : Nat} {xs : List Int} {l : List Th} {w : World} (h : St W p a cap xs l w) (v0 v1 v2 v3 : Value) (t : TypeId) : St W p a cap xs (.box w.heap.size v0 v1 v2 v3 :: l) (w.alloc (.cells #[v0, v1, v2, v3] t)) :=
  ⟨h.tape.more (balloc (bref w) _), balloc h.below _, h.en.new v0 v1 v2 v3 t h.below.size (by have := h.tape.lt.1; simp; omega)⟩
theorem St.perm {W : World} {p : Nat} {a : Option Addr} {cap : Nat} {xs : List Int} {l l' : List Th} {w : World} (h : St W p a cap xs l w) (hp : l.Perm l') : St W p a cap xs l' w := ⟨h.tape, h.below, h.en.perm hp⟩
/-- the thing of a number comes to the front -/
theorem St.pull {W : World} {p : Nat} {a : Option Addr} {cap : Nat} {xs : List Int} {l l' : List Th} {w : World} {x : Th} (h : St W p a cap xs l w) (n : Nat) (hl : l[n]? = some x) (he : l.eraseIdx n = l') : St W p a cap xs (x :: l') w := h.perm (perm_pull n hl he)
theorem St.store {W : World} {p : Nat} {a : Option Addr} {cap : Nat} {xs : List Int} {l : List Th} {w : World} {g c : Nat} {L : List Int} (h : St W p a cap xs (.pix g c L :: l) w) (k : Nat) (v : Int) : St W p a cap xs (.pix g c (L.set k v) :: l) (w.setCell ⟨g, k, none⟩ (.int .i64 v)) := by
  have hp := h.en.pix g c (L := L) (List.mem_cons_self ..)
  have hf := h.en.far _ (List.mem_cons_self ..)
  have hf2 : ¬ g = p := by simpa [Th.blk] using hf.2
  have hf1 : W.heap.size ≤ g := hf.1
  have hg := grown_set w g k (.int .i64 v)
  have hn := h.en.head
  exact ⟨h.tape.grown hf1 hf2 _ _, h.below.setCell hf1 _, En.cons (h.en.tail.row hg (fun x hx e => hn x hx e.symm)) (hp.store k v).1 hf hn⟩
theorem box4_put {w : World} {b : Nat} (h : Open4 w b) (v0 v1 v2 v3 : Value) : Box4 (put4 w b v0 v1 v2 v3) b v0 v1 v2 v3 := by
  obtain ⟨k0, k1, k2, k3⟩ := put4_at h v0 v1 v2 v3
  have f : ∀ k, k < 4 → (put4 w b v0 v1 v2 v3).frozen? ⟨b, k, none⟩ = false := fun k hk => by
    simp only [put4, World.frozen?_setCell]; exact (h k hk).2
  exact ⟨⟨k0, k1, k2, k3⟩, f 0 (by omega), f 1 (by omega), f 2 (by omega), f 3 (by omega)⟩
/-- a variable is written that is none of the things -/
theorem En.put {base : Nat} {p : Option Nat} {l : List Th} {w : World} (h : En base p l w) {b : Nat} (ho : Open4 w b) (hb : base ≤ b) (hp : some b ≠ p) (hne : ∀ x ∈ l, ¬ x.blk = b) (v0 v1 v2 v3 : Value) : En base p (.box b v0 v1 v2 v3 :: l) (put4 w b v0 v1 v2 v3) :=
  En.cons (h.row (gput4 (gref w (some b)) (.inr rfl) v0 v1 v2 v3) hne) (box4_put ho v0 v1 v2 v3) ⟨hb, hp⟩ (fun y hy e => hne y hy e.symm)
theorem Sn.put {W : World} {l : List Th} {w : World} (h : Sn W l w) {b : Nat} (ho : Open4 w b) (hb : W.heap.size ≤ b) (hne : ∀ x ∈ l, ¬ x.blk = b) (v0 v1 v2 v3 : Value) : Sn W (.box b v0 v1 v2 v3 :: l) (put4 w b v0 v1 v2 v3) :=
  ⟨bput4 h.below hb _ _ _ _, h.en.put ho hb (by simp) hne _ _ _ _⟩
theorem St.put {W : World} {p : Nat} {a : Option Addr} {cap : Nat} {xs : List Int} {l : List Th} {w : World} (h : St W p a cap xs l w) {b : Nat} (ho : Open4 w b) (hb : W.heap.size ≤ b) (hp : ¬ b = p) (hne : ∀ x ∈ l, ¬ x.blk = b) (v0 v1 v2 v3 : Value) : St W p a cap xs (.box b v0 v1 v2 v3 :: l) (put4 w b v0 v1 v2 v3) :=
  ⟨h.tape.put hb hp _ _ _ _, bput4 h.below hb _ _ _ _, h.en.put ho hb (by simpa using hp) hne _ _ _ _⟩
/-- behind two calls with a variable made somewhere between: what was there, what the second call has made, and the variable -/
theorem Sn.var2 {W : World} {l : List Th} {wa w4 w5 wf : World} {g c : Nat} {L : List Int} {v0 v1 v2 v3 : Value} {b : Nat} {o : Obj} {t : TypeId} (h : Sn W l wa) (ho : ∀ w : World, Open4 (w.alloc o) w.heap.size)
    (hw : (Below wa.heap.size wa w4 ∧ Below w4.heap.size w4 w5 ∧ PixAt w4.heap.size w5 g c L ∧ b = w5.heap.size ∧ wf = w5.alloc (.cells #[v0, v1, v2, v3] t)) ∨
      (Below wa.heap.size wa w4 ∧ Below (w4.alloc o).heap.size (w4.alloc o) w5 ∧ PixAt (w4.alloc o).heap.size w5 g c L ∧ b = w4.heap.size ∧ wf = put4 w5 b v0 v1 v2 v3) ∨
      (Below (wa.alloc o).heap.size (wa.alloc o) w4 ∧ Below w4.heap.size w4 w5 ∧ PixAt w4.heap.size w5 g c L ∧ b = wa.heap.size ∧ wf = put4 w5 b v0 v1 v2 v3)) :
    Sn W (.box b v0 v1 v2 v3 :: .pix g c L :: l) wf := by
  have hs := h.below.size
  rcases hw with ⟨h1, h2, h3, rfl, rfl⟩ | ⟨h1, h2, h3, rfl, rfl⟩ | ⟨h1, h2, h3, rfl, rfl⟩
  · have k4 := h.call h1
    have k5 := k4.made h3 h2
    exact k5.new v0 v1 v2 v3 t
  · have k4 := h.call h1
    have k4' := k4.call (balloc (bref _) o)
    have k5 := k4'.made h3 h2
    refine k5.put ((ho w4).below h2) k4.below.size (fun x hx => ?_) _ _ _ _
    rcases List.mem_cons.1 hx with rfl | hx
    · have := h3.lt; simp [Th.blk] at this ⊢; omega
    · have := k4.en.lt x hx; omega
  · have k3' := h.call (balloc (bref _) o)
    have k4 := k3'.call h1
    have k5 := k4.made h3 h2
    refine k5.put (((ho wa).below h1).below h2) hs (fun x hx => ?_) _ _ _ _
    rcases List.mem_cons.1 hx with rfl | hx
    · have := h3.lt; have := h1.size; simp [Th.blk] at this ⊢; omega
    · have := h.en.lt x hx; omega
/-- a call drew and made a row -/
theorem St.drawn {W : World} {p : Nat} {a : Option Addr} {cap : Nat} {xs : List Int} {l : List Th} {w w' : World} (h : St W p a cap xs l w) {g c : Nat} {L : List Int} (hP : PixAt w.heap.size w' g c L) (hT : TapeSome W w' p a cap xs) (hg : w.grownBy w' (some p)) : St W p a cap xs (.pix g c L :: l) w' := by
  have k := h.draw hT hg
  obtain ⟨h2, h3, h4⟩ := h.tape.lt
  have h1 := hP.lt
  exact ⟨hT, k.below, k.en.cons (hP.base h4) ⟨by show _ ≤ g; omega, by show some g ≠ some p; simp; omega⟩ (fun y hy => by have := h.en.lt y hy; show ¬ g = y.blk; omega)⟩
/-- a call made a row -/
theorem St.made {W : World} {p : Nat} {a : Option Addr} {cap : Nat} {xs : List Int} {l : List Th} {w w' : World} (h : St W p a cap xs l w) {g c : Nat} {L : List Int} (hP : PixAt w.heap.size w' g c L) (hb : Below w.heap.size w w') : St W p a cap xs (.pix g c L :: l) w' := h.drawn hP (h.tape.more hb) (bgrown hb _)
/-- behind two calls with a variable made somewhere between -/
theorem St.var2 {W : World} {p : Nat} {a : Option Addr} {cap : Nat} {xs : List Int} {l : List Th} {wa w4 w5 wf : World} {g c : Nat} {L : List Int} {v0 v1 v2 v3 : Value} {b : Nat} {o : Obj} {t : TypeId} (h : St W p a cap xs l wa) (ho : ∀ w : World, Open4 (w.alloc o) w.heap.size)
    (hw : (Below wa.heap.size wa w4 ∧ Below w4.heap.size w4 w5 ∧ PixAt w4.heap.size w5 g c L ∧ b = w5.heap.size ∧ wf = w5.alloc (.cells #[v0, v1, v2, v3] t)) ∨
      (Below wa.heap.size wa w4 ∧ Below (w4.alloc o).heap.size (w4.alloc o) w5 ∧ PixAt (w4.alloc o).heap.size w5 g c L ∧ b = w4.heap.size ∧ wf = put4 w5 b v0 v1 v2 v3) ∨
      (Below (wa.alloc o).heap.size (wa.alloc o) w4 ∧ Below w4.heap.size w4 w5 ∧ PixAt w4.heap.size w5 g c L ∧ b = wa.heap.size ∧ wf = put4 w5 b v0 v1 v2 v3)) :
    St W p a cap xs (.box b v0 v1 v2 v3 :: .pix g c L :: l) wf := by
  obtain ⟨hp, hs0, hs⟩ := h.tape.lt
  rcases hw with ⟨h1, h2, h3, rfl, rfl⟩ | ⟨h1, h2, h3, rfl, rfl⟩ | ⟨h1, h2, h3, rfl, rfl⟩
  · exact ((h.call h1).made h3 h2).new v0 v1 v2 v3 t
  · have k4 := h.call h1
    have k4' := k4.call (balloc (bref _) o)
    have k5 := k4'.made h3 h2
    have hz := h1.size
    refine k5.put ((ho w4).below h2) k4.below.size (by omega) (fun x hx => ?_) _ _ _ _
    rcases List.mem_cons.1 hx with rfl | hx
    · have := h3.lt; simp [Th.blk] at this ⊢; omega
    · have := k4.en.lt x hx; omega
  · have k3' := h.call (balloc (bref _) o)
    have k4 := k3'.call h1
    have k5 := k4.made h3 h2
    refine k5.put (((ho wa).below h1).below h2) hs (by omega) (fun x hx => ?_) _ _ _ _
    rcases List.mem_cons.1 hx with rfl | hx
    · have := h3.lt; have := h1.size; simp [Th.blk] at this ⊢; omega
    · have := h.en.lt x hx; omega
theorem open_new0 (t : TypeId) (v0 v1 v2 v3 : Value) : ∀ w : World, Open4 (w.alloc (.cells #[v0, v1, v2, v3] t)) w.heap.size := fun w => Open4.new w v0 v1 v2 v3 t
/-- a plane came back -/
theorem post_some {W H M : Int} {o : Option (List Int)} {L : List Int} {w : World} {e : Ending} {w' : World} (h : PlanePost W H M o w e w') (ho : o = some L) :
    ∃ g cap, e = .returned (.tuple #[.agg #[.int .i64 W, .int .i64 H, .int .i64 M, .slice (some ⟨g, 0, none⟩) L.length cap], .bool true]) ∧ PixAt w.heap.size w' g cap L ∧ Below w.heap.size w w' := by
  subst ho
  obtain ⟨hb, g, cap, he, hp⟩ := h
  exact ⟨g, cap, he, hp, hb⟩
theorem post_none {W H M : Int} {o : Option (List Int)} {w : World} {e : Ending} {w' : World} (h : PlanePost W H M o w e w') (ho : o = none) :
    e = .returned (.tuple #[.agg #[.int .i64 0, .int .i64 0, .int .i64 0, .slice none 0 0], .bool false]) ∧ Below w.heap.size w w' := by
  subst ho
  obtain ⟨hb, he⟩ := h
  exact ⟨he, hb⟩
end Go.Proofs.Ytpmajophkhihlaa
