/- Taps in memory: a slice of taps, each with a slice of weights; read only, and as a row of one's own that grows by append. -/
import Derived.Test.YtjmdpebocchdhaaDoorOwn
import Derived.Deep.AppendLies
namespace Go.Proofs.YtjmdpebocchdhaaDoor
open Go.ChangeShapes Go.WideShapes Go.ChangeAt Go.RowKit
set_option linter.unusedVariables false
set_option linter.unusedSimpArgs false

/-- a tap: the first coordinate and the weights -/
structure Tp where
  f : Int
  L : List Int
deriving DecidableEq
/-- a tap as it lies: its weights' address and capacity beside it -/
structure Tv where
  f : Int
  ad : Option Addr
  cap : Nat
  L : List Int
def Tv.tp (t : Tv) : Tp := ⟨t.f, t.L⟩
def tv0 : Tv := ⟨0, none, 0, []⟩
def Tv.val (t : Tv) : Value := .slice t.ad t.L.length t.cap
def flatT (V : List Tv) : List Value := V.flatMap fun t => [.int .i64 t.f, t.val]
theorem flatT_len (V : List Tv) : (flatT V).length = V.length * 2 := by
  induction V with
  | nil => rfl
  | cons t V ih => simp only [flatT, List.flatMap_cons, List.length_append] at ih ⊢; rw [ih]; simp; omega
theorem flatT_add (V U : List Tv) : flatT (V ++ U) = flatT V ++ flatT U := by simp [flatT]
theorem flatT_one (t : Tv) : flatT [t] = [.int .i64 t.f, t.val] := rfl
theorem flatT_at : ∀ (V : List Tv) (k : Nat), k < V.length → (flatT V)[k * 2]? = some (.int .i64 (V.getD k tv0).f) ∧ (flatT V)[k * 2 + 1]? = some (V.getD k tv0).val
  | [], k, h => by simp at h
  | t :: V, 0, h => by simp [flatT]
  | t :: V, k + 1, h => by
    have ih := flatT_at V k (by simpa using h)
    have e : flatT (t :: V) = .int .i64 t.f :: t.val :: flatT V := by simp [flatT]
    rw [e, show (k + 1) * 2 = k * 2 + 1 + 1 by omega]
    simpa using ih
/-- a slice of taps, wherever it lies -/
def TapsIs (w : World) (a : Option Addr) (V : List Tv) : Prop := ∀ k, k < V.length → ∃ b off, a = some ⟨b, off, none⟩ ∧ w.cell? ⟨b, off + k * 2, none⟩ = some (.int .i64 (V.getD k tv0).f) ∧ w.cell? ⟨b, off + k * 2 + 1, none⟩ = some (V.getD k tv0).val ∧ SliceIs w (V.getD k tv0).ad (V.getD k tv0).L
theorem taps_below {w w' : World} {a : Option Addr} {V : List Tv} (h : TapsIs w a V) (hb : Below w.heap.size w w') : TapsIs w' a V := by
  intro k hk
  obtain ⟨b, off, e, h1, h2, h3⟩ := h k hk
  exact ⟨b, off, e, bkeep hb h1, bkeep hb h2, is_below h3 hb⟩
/-- the weights of each tap lie where they do not move when the row grows -/
def InnerOk (base : Nat) (w : World) (own : Option Nat) (V : List Tv) : Prop := ∀ t ∈ V, SliceIs w t.ad t.L ∧ ∀ b o s, t.ad = some ⟨b, o, s⟩ → base ≤ b ∧ own ≠ some b ∧ b < w.heap.size
theorem InnerOk.below {base : Nat} {w w' : World} {own : Option Nat} {V : List Tv} (h : InnerOk base w own V) (hb : Below w.heap.size w w') : InnerOk base w' own V := by
  intro t ht
  obtain ⟨h1, h2⟩ := h t ht
  exact ⟨is_below h1 hb, fun b o s e => ⟨(h2 b o s e).1, (h2 b o s e).2.1, bmore hb (h2 b o s e).2.2⟩⟩
theorem is_grown {w w' : World} {row : Option Nat} {a : Option Addr} {L : List Int} (h : SliceIs w a L) (hg : w.grownBy w' row) (hne : ∀ b o s, a = some ⟨b, o, s⟩ → row ≠ some b) : SliceIs w' a L := by
  intro k hk
  obtain ⟨b, off, rfl, hc⟩ := h k hk
  exact ⟨b, off, rfl, hg.cell hc (fun e => hne b off none rfl e.symm)⟩
/-- taps in a block of their own, made since 'base' -/
def OwnT (base : Nat) (w : World) (v : Value) (V : List Tv) : Prop := w.ownsRow base 31 2 v V.length (flatT V) ∧ InnerOk base w v.ownBlock V
theorem OwnT.nil (base : Nat) (w : World) : OwnT base w (.slice none 0 0) [] := ⟨World.ownsRow_nil _ _ _ _, fun t ht => by simp at ht⟩
theorem OwnT.below {base : Nat} {w w' : World} {v : Value} {V : List Tv} (h : OwnT base w v V) (hb : Below w.heap.size w w') : OwnT base w' v V := ⟨own_below h.1 hb, h.2.below hb⟩
theorem OwnT.lt {base : Nat} {w : World} {v : Value} {V : List Tv} (h : OwnT base w v V) {g : Nat} (e : v.ownBlock = some g) : base ≤ g ∧ g < w.heap.size := World.ownsRow.lt h.1 g e
theorem OwnT.mono {base b2 : Nat} {w : World} {v : Value} {V : List Tv} (h : OwnT base w v V) (hb : b2 ≤ base) : OwnT b2 w v V := ⟨World.ownsRow.mono h.1 hb, fun t ht => ⟨(h.2 t ht).1, fun b o s e => ⟨Nat.le_trans hb ((h.2 t ht).2 b o s e).1, ((h.2 t ht).2 b o s e).2⟩⟩⟩
/-- another block has changed -/
theorem OwnT.grown {base : Nat} {w w' : World} {v : Value} {V : List Tv} {p : Nat} (h : OwnT base w v V) (hg : w.grownBy w' (some p)) (hp : p < base) : OwnT base w' v V := by
  refine ⟨World.ownsRow.kept h.1 hg ?_, fun t ht => ?_⟩
  · cases e : v.ownBlock with
    | none => exact .inl rfl
    | some g => exact .inr (by have := (h.lt e).1; simp; omega)
  · obtain ⟨h1, h2⟩ := h.2 t ht
    exact ⟨is_grown h1 hg (fun b o s e e2 => by have := (h2 b o s e).1; have := Option.some.inj e2; omega), fun b o s e => ⟨(h2 b o s e).1, (h2 b o s e).2.1, Nat.lt_of_lt_of_le (h2 b o s e).2.2 hg.size⟩⟩
/-- one tap more -/
theorem OwnT.app {base : Nat} {w w' : World} {v v' : Value} {V : List Tv} {t : Tv} {g H : Nat} (h : OwnT base w v V) (ho : w'.ownsRow base 31 2 v' (V.length + 1) (flatT V ++ flatT [t])) (hg : w.grownBy w' v.ownBlock) (hat : v.ownBlock = some g ∨ g = H) (hv : v'.ownBlock = some g) (hH : H = w.heap.size)
    (ht : SliceIs w t.ad t.L) (hn : ∀ b o s, t.ad = some ⟨b, o, s⟩ → base ≤ b ∧ v.ownBlock ≠ some b ∧ b < w.heap.size) : OwnT base w' v' (V ++ [t]) := by
  refine ⟨by rw [List.length_append, flatT_add]; exact ho, fun u hu => ?_⟩
  have key : ∀ u : Tv, (SliceIs w u.ad u.L ∧ ∀ b o s, u.ad = some ⟨b, o, s⟩ → base ≤ b ∧ v.ownBlock ≠ some b ∧ b < w.heap.size) → SliceIs w' u.ad u.L ∧ ∀ b o s, u.ad = some ⟨b, o, s⟩ → base ≤ b ∧ v'.ownBlock ≠ some b ∧ b < w'.heap.size := by
    rintro u ⟨h1, h2⟩
    refine ⟨is_grown h1 hg (fun b o s e => (h2 b o s e).2.1), fun b o s e => ⟨(h2 b o s e).1, ?_, Nat.lt_of_lt_of_le (h2 b o s e).2.2 hg.size⟩⟩
    obtain ⟨_, h3, h4⟩ := h2 b o s e
    rw [hv]
    intro e2
    have e3 := Option.some.inj e2
    rcases hat with h5 | h5
    · exact h3 (by rw [h5, e3])
    · omega
  rcases List.mem_append.1 hu with h1 | h1
  · exact key u (h.2 u h1)
  · rw [List.mem_singleton] at h1; subst h1; exact key u ⟨ht, hn⟩
theorem flatT_set : ∀ (V : List Tv) (k : Nat) (t : Tv), ((flatT V).set (k * 2) (.int .i64 t.f)).set (k * 2 + 1) t.val = if k < V.length then flatT (V.set k t) else flatT V
  | [], k, t => by simp [flatT]
  | u :: V, 0, t => by simp [flatT]
  | u :: V, k + 1, t => by
    have ih := flatT_set V k t
    have e : ∀ (x : Tv) (X : List Tv), flatT (x :: X) = .int .i64 x.f :: x.val :: flatT X := fun x X => by simp [flatT]
    rw [e, show (k + 1) * 2 = k * 2 + 1 + 1 by omega]
    simp only [List.set_cons_succ]
    rw [ih]
    simp only [List.length_cons, Nat.add_lt_add_iff_right]
    split <;> simp [e]
/-- one tap is written anew -/
theorem OwnT.set {base : Nat} {w : World} {g cap : Nat} {V : List Tv} {k : Nat} {t : Tv} (h : OwnT base w (.slice (some ⟨g, 0, none⟩) V.length cap) V) (hk : k < V.length) (ht : SliceIs w t.ad t.L) (hn : ∀ b o s, t.ad = some ⟨b, o, s⟩ → base ≤ b ∧ ¬ g = b ∧ b < w.heap.size) :
    OwnT base ((w.setCell ⟨g, k * 2, none⟩ (.int .i64 t.f)).setCell ⟨g, k * 2 + 1, none⟩ t.val) (.slice (some ⟨g, 0, none⟩) (V.set k t).length cap) (V.set k t) ∧ w.grownBy ((w.setCell ⟨g, k * 2, none⟩ (.int .i64 t.f)).setCell ⟨g, k * 2 + 1, none⟩ t.val) (some g) := by
  obtain ⟨h1, h2⟩ := World.ownsRow.stored h.1 (k * 2) (.int .i64 t.f)
  obtain ⟨h3, h4⟩ := World.ownsRow.stored h1 (k * 2 + 1) t.val
  rw [flatT_set, if_pos hk] at h3
  have hg : w.grownBy ((w.setCell ⟨g, k * 2, none⟩ (.int .i64 t.f)).setCell ⟨g, k * 2 + 1, none⟩ t.val) (some g) :=
    ⟨h4.os.trans h2.os, h4.tape.trans h2.tape, h4.output.trans h2.output, Nat.le_trans h2.size h4.size, fun i hi hne => by rw [h4.block i (Nat.lt_of_lt_of_le hi h2.size) hne]; exact h2.block i hi hne⟩
  refine ⟨⟨by rw [List.length_set]; exact h3, fun u hu => ?_⟩, hg⟩
  have key : SliceIs w u.ad u.L ∧ ∀ b o s, u.ad = some ⟨b, o, s⟩ → base ≤ b ∧ ¬ g = b ∧ b < w.heap.size := by
    rcases List.mem_or_eq_of_mem_set hu with h5 | h5
    · obtain ⟨h6, h7⟩ := h.2 u h5
      exact ⟨h6, fun b o s e => ⟨(h7 b o s e).1, fun e2 => (h7 b o s e).2.1 (by rw [e2]; rfl), (h7 b o s e).2.2⟩⟩
    · subst h5; exact ⟨ht, hn⟩
  obtain ⟨k1, k2⟩ := key
  exact ⟨is_grown k1 hg (fun b o s e e2 => (k2 b o s e).2.1 (Option.some.inj e2)), fun b o s e => ⟨(k2 b o s e).1, fun e2 => (k2 b o s e).2.1 (Option.some.inj e2), Nat.lt_of_lt_of_le (k2 b o s e).2.2 hg.size⟩⟩
theorem OwnT.taps {base : Nat} {w : World} {v : Value} {V : List Tv} (h : OwnT base w v V) : ∃ a cap, v = .slice a V.length cap ∧ TapsIs w a V := by
  rcases h.1.2 with ⟨rfl, hn⟩ | ⟨g, cap, cur, rfl, _⟩
  · exact ⟨none, 0, by rw [hn], fun k hk => by omega⟩
  · refine ⟨_, cap, rfl, fun k hk => ⟨g, 0, rfl, ?_, ?_, ?_⟩⟩
    · have := World.ownsRow.cellAt h.1 (k * 2) (by omega)
      rw [Nat.zero_add, this]; exact (flatT_at V k hk).1
    · have := World.ownsRow.cellAt h.1 (k * 2 + 1) (by omega)
      rw [Nat.zero_add, this]; exact (flatT_at V k hk).2
    · refine (h.2 (V.getD k tv0) ?_).1
      rw [List.getD_eq_getElem?_getD, List.getElem?_eq_getElem hk]; exact List.getElem_mem _
theorem infoTap : (Tryd.prog.info? 31).map (fun i => (i.zero, i.size, i.bytes)) = some (some (.agg #[.int .i64 0, .slice none 0 0]), 2, 32) := by kernel_rfl
end Go.Proofs.YtjmdpebocchdhaaDoor
