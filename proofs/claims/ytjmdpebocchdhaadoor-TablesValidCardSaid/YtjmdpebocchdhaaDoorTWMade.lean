/- A new slice of taps, and its taps written one after another. -/
import Derived.Test.YtjmdpebocchdhaaDoorTLinear
import Derived.Test.YtjmdpebocchdhaaDoorTWPlain
import Derived.Laws.MakeOwn
namespace Go.Proofs.YtjmdpebocchdhaaDoor
open Go.ChangeShapes Go.WideShapes Go.ChangeAt Go.RowKit
set_option linter.unusedVariables false
set_option linter.unusedSimpArgs false

theorem made_two (a b : Value) (n : Nat) : (madeCells #[a, b] (n * 2)).toList = (List.replicate n [a, b]).flatten := by
  have e : ∀ k, (madeCells #[a, b] k).toList = (List.range k).map (fun i => (#[a, b] : Array Value)[i % 2]!) := by
    intro k; simp [madeCells]
  rw [e]
  induction n with
  | zero => rfl
  | succ n ih =>
    rw [show (n + 1) * 2 = n * 2 + 1 + 1 by omega, List.range_succ, List.range_succ, List.map_append, List.map_append, ih, List.replicate_succ', List.flatten_append, List.append_assoc]
    have h0 : n * 2 % 2 = 0 := by omega
    have h1 : (n * 2 + 1) % 2 = 1 := by omega
    simp [h0, h1]
theorem flat_rep (n : Nat) : flatT (List.replicate n tv0) = (List.replicate n [Value.int .i64 0, Value.slice none 0 0]).flatten := by
  induction n with
  | zero => rfl
  | succ n ih =>
    rw [List.replicate_succ, List.replicate_succ, List.flatten_cons, ← ih]
    show flatT ([tv0] ++ List.replicate n tv0) = _
    rw [flatT_add]; rfl
theorem run_taps (n : Nat) (hn : n ≤ 16384) : ∃ A : Array Value, A = (flatT (List.replicate n tv0)).toArray ∧ ∀ W : World, (Instr.makeSlice 23 (.int .i64 (n : Int)) (.int .i64 (n : Int))).run Tryd.prog W = .ok (.slice (some ⟨W.heap.size, 0, none⟩) n n) (W.alloc (.cells A 31)) := by
  obtain ⟨i0, hi, hz0, hz1, hz2⟩ := info_parts infoTap
  refine ⟨madeCells (Value.cells (.agg #[.int .i64 0, .slice none 0 0])) (n * 2), ?_, fun W => ?_⟩
  · have : (madeCells (Value.cells (.agg #[.int .i64 0, .slice none 0 0])) (n * 2)).toList = flatT (List.replicate n tv0) := by
      rw [show Value.cells (.agg #[.int .i64 0, .slice none 0 0]) = #[.int .i64 0, .slice none 0 0] by rfl, made_two, flat_rep]
    rw [← this]
  · have := run_make W 23 31 i0 (.agg #[.int .i64 0, .slice none 0 0]) Tryd.underlying23 hi hz0 .i64 .i64 (n : Int) (n : Int) (by omega) (by omega) (by rw [hz2]; omega) (by omega)
    rw [this, hz1]
    simp
theorem made_own (w : World) (n : Nat) (hn : n ≤ 16384) {A : Array Value} (hA : A = (flatT (List.replicate n tv0)).toArray) : OwnT w.heap.size (w.alloc (.cells A 31)) (.slice (some ⟨w.heap.size, 0, none⟩) n n) (List.replicate n tv0) := by
  subst hA
  have hl : (flatT (List.replicate n tv0)).length = n * 2 := by rw [flatT_len, List.length_replicate]
  refine ⟨?_, fun t ht => ?_⟩
  · rw [List.length_replicate]
    refine ⟨hl, .inr ⟨w.heap.size, n, (flatT (List.replicate n tv0)).toArray, rfl, Nat.le_refl _, heap_alloc_new w _, Nat.le_refl _, by unfold maxLen; omega, by simp [hl], by rw [List.take_of_length_le (by simp [hl])]⟩⟩
  · rw [List.mem_replicate] at ht
    rw [ht.2]
    exact ⟨fun k hk => by simp [tv0] at hk, fun b o s e => by simp [tv0] at e⟩
/-- the table so far: k taps are written, the others are zero -/
def MadeIn (w : World) (g n : Nat) (T : List Tp) (V : List Tv) (wr : World) : Prop := w.heap.size ≤ g ∧ T.length ≤ n ∧ V.length = n ∧ V.map Tv.tp = T ++ List.replicate (n - T.length) tv0.tp ∧ OwnT w.heap.size wr (.slice (some ⟨g, 0, none⟩) n n) V ∧ Below w.heap.size w wr
theorem MadeIn.start {w : World} {n : Nat} (hn : n ≤ 16384) {A : Array Value} (hA : A = (flatT (List.replicate n tv0)).toArray) : MadeIn w w.heap.size n [] (List.replicate n tv0) (w.alloc (.cells A 31)) :=
  ⟨Nat.le_refl _, by simp, by simp, by simp, made_own w n hn hA, balloc (bref w) _⟩
theorem MadeIn.below {w : World} {g n : Nat} {T : List Tp} {V : List Tv} {wr w' : World} (h : MadeIn w g n T V wr) (hb : Below wr.heap.size wr w') : MadeIn w g n T V w' := ⟨h.1, h.2.1, h.2.2.1, h.2.2.2.1, h.2.2.2.2.1.below hb, bthen h.2.2.2.2.2 hb⟩
theorem MadeIn.lt {w : World} {g n : Nat} {T : List Tp} {V : List Tv} {wr : World} (h : MadeIn w g n T V wr) : g < wr.heap.size := (h.2.2.2.2.1.lt rfl).2
/-- the cells of the next tap, before it is written -/
theorem MadeIn.cells {w : World} {g n : Nat} {T : List Tp} {V : List Tv} {wr : World} (h : MadeIn w g n T V wr) (hk : T.length < n) : (∃ u, wr.cell? ⟨g, T.length * 2, none⟩ = some u) ∧ (∃ u, wr.cell? ⟨g, T.length * 2 + 1, none⟩ = some u) ∧ wr.frozen? ⟨g, T.length * 2, none⟩ = false ∧ wr.frozen? ⟨g, T.length * 2 + 1, none⟩ = false := by
  have ho : wr.ownsRow w.heap.size 31 2 (.slice (some ⟨g, 0, none⟩) n n) V.length (flatT V) := h.2.2.2.2.1.1
  have hV := h.2.2.1
  have hkV : T.length < V.length := by omega
  rw [hV] at ho
  have h1 := World.ownsRow.cellAt ho (T.length * 2) (by omega)
  have h2 := World.ownsRow.cellAt ho (T.length * 2 + 1) (by omega)
  rw [(flatT_at V T.length hkV).1] at h1
  rw [(flatT_at V T.length hkV).2] at h2
  exact ⟨⟨_, h1⟩, ⟨_, h2⟩, World.ownsRow.frozenAt ho _, World.ownsRow.frozenAt ho _⟩
theorem MadeIn.set {w : World} {g n : Nat} {T : List Tp} {V : List Tv} {wr : World} {t : Tv} (h : MadeIn w g n T V wr) (hk : T.length < n) (ht : SliceIs wr t.ad t.L) (hn : ∀ b o s, t.ad = some ⟨b, o, s⟩ → w.heap.size ≤ b ∧ ¬ g = b ∧ b < wr.heap.size) :
    MadeIn w g n (T ++ [t.tp]) (V.set T.length t) ((wr.setCell ⟨g, T.length * 2, none⟩ (.int .i64 t.f)).setCell ⟨g, T.length * 2 + 1, none⟩ t.val) := by
  obtain ⟨h1, h2, h3, h4, h5, h6⟩ := h
  have h5' : OwnT w.heap.size wr (.slice (some ⟨g, 0, none⟩) V.length n) V := by rw [h3]; exact h5
  obtain ⟨k1, k2⟩ := h5'.set (k := T.length) (t := t) (by omega) ht hn
  rw [List.length_set, h3] at k1
  refine ⟨h1, by simp; omega, by rw [List.length_set]; exact h3, ?_, k1, ?_⟩
  · rw [List.map_set, h4, show n - T.length = (n - T.length - 1) + 1 by omega, rep_set, List.length_append]
    simp only [List.length_cons, List.length_nil]
    rw [show n - T.length - 1 = n - (T.length + (0 + 1)) by omega]
  · exact (h6.setCell (p := ⟨g, T.length * 2, none⟩) h1 _).setCell (p := ⟨g, T.length * 2 + 1, none⟩) h1 _
/-- the whole table -/
theorem MadeIn.done {w : World} {g n : Nat} {T : List Tp} {V : List Tv} {wr : World} (h : MadeIn w g n T V wr) (hk : T.length = n) (c : Int) : TabPost T c w (.returned (.tuple #[.slice (some ⟨g, 0, none⟩) n n, .int .i64 c])) wr := by
  obtain ⟨h1, h2, h3, h4, h5, h6⟩ := h
  refine ⟨_, V, rfl, ?_, h5, h6⟩
  rw [h4, hk, Nat.sub_self]; simp
end Go.Proofs.YtjmdpebocchdhaaDoor
