/- A walk's state with a tape and several rows that grow by append, each in a block of its own. -/
import Derived.Test.YtibmoibhbgbfoaaTreeKit
import Derived.Test.YtibmoibhbgbfoaaPSized
import Derived.Deep.AppendLies
namespace Go.Proofs.Ytibmoibhbgbfoaa
open Go.ChangeShapes Go.WideShapes Go.ChangeAt Go.RowKit
set_option linter.unusedVariables false
set_option linter.unusedSimpArgs false

/-- a row: its slice and its numbers -/
structure Rw where
  v : Value
  L : List Int
/-- rows in blocks of their own, each made since B -/
structure Ro (B : Nat) (rows : List Rw) (w : World) : Prop where
  ok : ∀ r ∈ rows, OwnL B w r.v r.L
  nd : rows.Pairwise (fun r s => ∀ g, r.v.ownBlock = some g → s.v.ownBlock ≠ some g)
theorem Ro.lt {B : Nat} {rows : List Rw} {w : World} (h : Ro B rows w) {r : Rw} (hr : r ∈ rows) {g : Nat} (e : r.v.ownBlock = some g) : B ≤ g ∧ g < w.heap.size := (h.ok r hr).lt e
theorem own_kept {base : Nat} {w w' : World} {v : Value} {L : List Int} {row : Option Nat} (h : OwnL base w v L) (hg : w.grownBy w' row) (hn : ∀ g, v.ownBlock = some g → some g ≠ row) : OwnL base w' v L := by
  refine World.ownsRow.kept h hg ?_
  cases e : v.ownBlock with
  | none => exact .inl rfl
  | some g => exact .inr (hn g e)
theorem Ro.below {B : Nat} {rows : List Rw} {w w' : World} (h : Ro B rows w) (hb : Below w.heap.size w w') : Ro B rows w' := ⟨fun r hr => (h.ok r hr).below hb, h.nd⟩
theorem Ro.grown {B : Nat} {rows : List Rw} {w w' : World} {b : Nat} (h : Ro B rows w) (hg : w.grownBy w' (some b)) (hb : b < B) : Ro B rows w' :=
  ⟨fun r hr => own_kept (h.ok r hr) hg (fun g e => by have := (h.lt hr e).1; simp; omega), h.nd⟩
theorem Ro.perm {B : Nat} {rows rows' : List Rw} {w : World} (h : Ro B rows w) (hp : rows.Perm rows') : Ro B rows' w :=
  ⟨fun r hr => h.ok r (hp.mem_iff.2 hr), hp.pairwise h.nd (fun k g e e2 => k g e2 e)⟩
theorem Ro.tail {B : Nat} {r : Rw} {rows : List Rw} {w : World} (h : Ro B (r :: rows) w) : Ro B rows w := ⟨fun s hs => h.ok s (List.mem_cons_of_mem _ hs), (List.pairwise_cons.1 h.nd).2⟩
/-- a new row of one number -/
theorem Ro.new {B : Nat} {rows : List Rw} {w : World} (h : Ro B rows w) (hB : B ≤ w.heap.size) (x : Int) : Ro B (⟨.slice (some ⟨w.heap.size, 0, none⟩) 1 1, [x]⟩ :: rows) (w.alloc (.cells #[.int .i64 x] 3)) := by
  have hr : RowIs (w.alloc (.cells #[.int .i64 x] 3)) w.heap.size [x] := row_new w [x]
  have hp := RowIs.pix (base := B) hr hB (by simp [maxLen])
  have hb := h.below (balloc (bref w) (.cells #[.int .i64 x] 3))
  refine ⟨fun r hr => ?_, List.pairwise_cons.2 ⟨fun s hs g e e2 => ?_, hb.nd⟩⟩
  · rcases List.mem_cons.1 hr with rfl | hr
    · exact hp
    · exact hb.ok r hr
  · have h1 := (h.lt hs e2).2
    have h2 : w.heap.size = g := by simpa [Value.ownBlock] using e
    omega
/-- the front row grows by one -/
theorem Ro.app {B : Nat} {v v' : Value} {L : List Int} {rows : List Rw} {w w' : World} {x : Int} {g H : Nat} (h : Ro B (⟨v, L⟩ :: rows) w) (ho : w'.ownsRow B 3 1 v' (L.length + 1) (ints L ++ [.int .i64 x])) (hg : w.grownBy w' v.ownBlock) (hat : v.ownBlock = some g ∨ g = H) (hv : v'.ownBlock = some g) (hH : H = w.heap.size) : Ro B (⟨v', L ++ [x]⟩ :: rows) w' := by
  have hn := (List.pairwise_cons.1 h.nd).1
  refine ⟨fun r hr => ?_, List.pairwise_cons.2 ⟨fun s hs q e e2 => ?_, h.tail.nd⟩⟩
  · rcases List.mem_cons.1 hr with rfl | hr
    · exact OwnL.more ho
    · exact own_kept (h.ok r (List.mem_cons_of_mem _ hr)) hg (fun q e e2 => hn r hr q e2.symm e)
  · have e3 : q = g := by
      have e' : v'.ownBlock = some q := e
      rw [hv] at e'; exact (Option.some.inj e').symm
    subst e3
    rcases hat with h1 | h1
    · exact hn s hs q h1 e2
    · have := (h.lt (List.mem_cons_of_mem _ hs) e2).2
      omega
/-- boxes, a tape and rows -/
structure Lr (W : World) (p : Nat) (a : Option Addr) (cap : Nat) (xs : List Int) (l : List Th) (B : Nat) (rows : List Rw) (w : World) : Prop where
  st : St W p a cap xs l w
  ro : Ro B rows w
  far : ∀ x ∈ l, x.blk < B
  lo : p < B ∧ W.heap.size ≤ B ∧ B ≤ w.heap.size
section
variable {W : World} {p : Nat} {a : Option Addr} {cap : Nat} {xs : List Int} {l : List Th} {B : Nat} {rows : List Rw} {w w' : World}
theorem Lr.start (h : St W p a cap xs l w) : Lr W p a cap xs l w.heap.size [] w := ⟨h, ⟨fun r hr => by simp at hr, .nil⟩, h.en.lt, h.tape.lt.1, h.below.size, Nat.le_refl _⟩
theorem Lr.nilrow (h : Lr W p a cap xs l B rows w) : Lr W p a cap xs l B (⟨.slice none 0 0, []⟩ :: rows) w :=
  ⟨h.st, ⟨fun r hr => by
    rcases List.mem_cons.1 hr with rfl | hr
    · exact OwnL.nil _ _
    · exact h.ro.ok r hr, List.pairwise_cons.2 ⟨fun s hs g e => by simp [Value.ownBlock] at e, h.ro.nd⟩⟩, h.far, h.lo⟩
theorem Lr.call (h : Lr W p a cap xs l B rows w) (hb : Below w.heap.size w w') : Lr W p a cap xs l B rows w' := ⟨h.st.call hb, h.ro.below hb, h.far, h.lo.1, h.lo.2.1, Nat.le_trans h.lo.2.2 hb.size⟩
theorem Lr.draw (h : Lr W p a cap xs l B rows w) (hT : TapeSome W w' p a cap xs) (hg : w.grownBy w' (some p)) : Lr W p a cap xs l B rows w' := ⟨h.st.draw hT hg, h.ro.grown hg h.lo.1, h.far, h.lo.1, h.lo.2.1, Nat.le_trans h.lo.2.2 hg.size⟩
theorem Lr.new (h : Lr W p a cap xs l B rows w) (x : Int) : Lr W p a cap xs l B (⟨.slice (some ⟨w.heap.size, 0, none⟩) 1 1, [x]⟩ :: rows) (w.alloc (.cells #[.int .i64 x] 3)) :=
  ⟨h.st.call (balloc (bref w) _), h.ro.new h.lo.2.2 x, h.far, h.lo.1, h.lo.2.1, by have := h.lo.2.2; simp; omega⟩
theorem Lr.perm {rows' : List Rw} (h : Lr W p a cap xs l B rows w) (hp : rows.Perm rows') : Lr W p a cap xs l B rows' w := ⟨h.st, h.ro.perm hp, h.far, h.lo⟩
theorem rperm {l l' : List Rw} {x : Rw} (n : Nat) (hl : l[n]? = some x) (he : l.eraseIdx n = l') : l.Perm (x :: l') := by
  subst he
  obtain ⟨hn, e⟩ := List.getElem?_eq_some_iff.1 hl
  subst e
  have e2 : l = l.take n ++ l[n] :: l.drop (n + 1) := by rw [List.getElem_cons_drop, List.take_append_drop]
  rw [List.eraseIdx_eq_take_drop_succ]
  exact (List.Perm.of_eq e2).trans List.perm_middle
theorem Lr.pull {rows' : List Rw} {x : Rw} (h : Lr W p a cap xs l B rows w) (n : Nat) (hl : rows[n]? = some x) (he : rows.eraseIdx n = rows') : Lr W p a cap xs l B (x :: rows') w := h.perm (rperm n hl he)
theorem Lr.drop1 {r : Rw} (h : Lr W p a cap xs l B (r :: rows) w) : Lr W p a cap xs l B rows w := ⟨h.st, h.ro.tail, h.far, h.lo⟩
theorem St.rowg {b : Nat} (h : St W p a cap xs l w) (hg : w.grownBy w' (some b)) (hne : ∀ x ∈ l, ¬ x.blk = b) (h1 : W.heap.size ≤ b) (h2 : ¬ b = p) : St W p a cap xs l w' :=
  ⟨h.tape.keepg hg h1 h2, h.below.grown hg h.below.size (fun k e => by simp at e; omega), h.en.row hg hne⟩
theorem Lr.app {v v' : Value} {L : List Int} {x : Int} {g H : Nat} (h : Lr W p a cap xs l B (⟨v, L⟩ :: rows) w) (ho : w'.ownsRow B 3 1 v' (L.length + 1) (ints L ++ [.int .i64 x])) (hg : w.grownBy w' v.ownBlock) (hat : v.ownBlock = some g ∨ g = H) (hv : v'.ownBlock = some g) (hH : w.heap.size = H) : Lr W p a cap xs l B (⟨v', L ++ [x]⟩ :: rows) w' := by
  refine ⟨?_, h.ro.app ho hg hat hv hH.symm, h.far, h.lo.1, h.lo.2.1, Nat.le_trans h.lo.2.2 hg.size⟩
  cases e : v.ownBlock with
  | none =>
    rw [e] at hg
    exact h.st.call ⟨hg.os, hg.tape, hg.output, hg.size, fun k hk => hg.block k hk (by simp)⟩
  | some b =>
    rw [e] at hg
    have hb := (h.ro.lt (List.mem_cons_self ..) e).1
    have h1 := h.lo.1
    have h2 := h.lo.2.1
    exact h.st.rowg hg (fun x hx => by have := h.far x hx; omega) (by omega) (by omega)
/-- the last field of a variable is written -/
theorem St.set3 {b : Nat} {v0 v1 v2 v3 : Value} (h : St W p a cap xs (.box b v0 v1 v2 v3 :: l) w) (u : Value) : St W p a cap xs (.box b v0 v1 v2 u :: l) (w.setCell ⟨b, 3, none⟩ u) := by
  have hf := h.en.far _ (List.mem_cons_self ..)
  have hf2 : ¬ b = p := by simpa [Th.blk] using hf.2
  have hf1 : W.heap.size ≤ b := hf.1
  have hg := grown_set w b 3 u
  have hn := h.en.head
  exact ⟨h.tape.grown hf1 hf2 _ _, h.below.setCell hf1 _, En.cons (h.en.tail.row hg (fun x hx e => hn x hx e.symm)) (Box4.set3 (show Box4 w b v0 v1 v2 v3 from h.en.ok _ (List.mem_cons_self ..)) u) hf hn⟩
theorem Lr.set3 {b : Nat} {v0 v1 v2 v3 : Value} (h : Lr W p a cap xs (.box b v0 v1 v2 v3 :: l) B rows w) (u : Value) : Lr W p a cap xs (.box b v0 v1 v2 u :: l) B rows (w.setCell ⟨b, 3, none⟩ u) :=
  ⟨h.st.set3 u, h.ro.grown (grown_set w b 3 u) (h.far _ (List.mem_cons_self ..)), fun x hx => (List.mem_cons.1 hx).elim (fun e => by subst e; exact h.far (.box b v0 v1 v2 v3) (List.mem_cons_self ..)) (fun hx => h.far x (List.mem_cons_of_mem _ hx)), h.lo.1, h.lo.2.1, by rw [World.size_setCell]; exact h.lo.2.2⟩
theorem Lr.pullth {l' : List Th} {x : Th} (h : Lr W p a cap xs l B rows w) (n : Nat) (hl : l[n]? = some x) (he : l.eraseIdx n = l') : Lr W p a cap xs (x :: l') B rows w :=
  ⟨h.st.pull n hl he, h.ro, fun y hy => h.far y ((perm_pull n hl he).mem_iff.2 hy), h.lo⟩
end
theorem one_news {B : Nat} {w : World} {t : Nat} {x : Int} (h : OwnL B w (.slice (some ⟨t, 0, none⟩) 1 1) [x]) : ∀ j u, ([.int .i64 x] : List Value)[j]? = some u → w.cell? ((⟨t, 0, none⟩ : Addr).add j) = some u := by
  intro j u hu
  have hj : j < 1 := by
    rcases Nat.lt_or_ge j 1 with g | g
    · exact g
    · rw [List.getElem?_eq_none (by simpa using g)] at hu; cases hu
  obtain rfl : j = 0 := by omega
  have hc := PixAt.cell (show PixAt B w t 1 [x] from h) (k := 0) (by simp)
  have hadd : (⟨t, 0, none⟩ : Addr).add 0 = ⟨t, 0, none⟩ := by unfold Addr.add; rfl
  rw [hadd, hc]
  simpa using hu
theorem own_at {B : Nat} {w : World} {v : Value} {L : List Int} {k : Nat} (hl : L.length = k) (h : OwnL B w v L) : w.ownsRow B 3 1 v k (ints L) := hl ▸ h
theorem sum_more {P Q R : List Int} {k : Nat} {x y z : Int} (hP : P.length = k) (hQ : Q.length = k) (hR : R.length = k) (h : ∀ j : Nat, R.getD j 0 = P.getD j 0 + Q.getD j 0) (hz : x + y = z) : ∀ j : Nat, (R ++ [z]).getD j 0 = (P ++ [x]).getD j 0 + (Q ++ [y]).getD j 0 := by
  intro j
  have e : ∀ (L : List Int) (u : Int), L.length = k → (L ++ [u]).getD j 0 = if j < k then L.getD j 0 else if j = k then u else 0 := by
    intro L u hL
    by_cases g : j < k
    · rw [if_pos g, List.getD_eq_getElem?_getD, List.getElem?_append_left (by omega), ← List.getD_eq_getElem?_getD]
    · rw [if_neg g]
      by_cases g2 : j = k
      · rw [if_pos g2, List.getD_eq_getElem?_getD, List.getElem?_append_right (by omega)]
        subst g2; rw [hL]; simp
      · rw [if_neg g2, List.getD_eq_getElem?_getD, List.getElem?_eq_none (by simp; omega)]; rfl
  rw [e R z hR, e P x hP, e Q y hQ]
  have := h j
  split
  · exact this
  · split <;> omega
theorem bound_more {P : List Int} {x : Int} (h : ∀ v ∈ P, 0 ≤ v ∧ v < 400) (hx : 0 ≤ x ∧ x < 400) : ∀ v ∈ P ++ [x], 0 ≤ v ∧ v < 400 := fun v hv => by
  rcases List.mem_append.1 hv with h1 | h1
  · exact h v h1
  · rw [List.mem_singleton] at h1; subst h1; exact hx
theorem own_pix {B : Nat} {w : World} {g k c : Nat} {L : List Int} (h : OwnL B w (.slice (some ⟨g, 0, none⟩) k c) L) (hl : L.length = k) : PixAt B w g c L := by
  subst hl; exact h
end Go.Proofs.Ytibmoibhbgbfoaa
