/- Both differences in one form: a slice that reads as the list of the parts. -/
import Derived.Test.YtbdedlmpcdelfaaRRSub
namespace Go.Proofs.Ytbdedlmpcdelfaa
open Go.ChangeShapes Go.WideShapes Go.ChangeAt Go.RowKit
set_option linter.unusedVariables false
set_option linter.unusedSimpArgs false

/-- a slice's rectangles, wherever they lie; of an empty one nothing is said -/
def RcsIs (w : World) (a : Option Addr) (L : List Rc) : Prop := ∀ j, j < L.length → ∃ b, a = some ⟨b, 0, none⟩ ∧
  w.cell? ⟨b, j * 4, none⟩ = some (.int .i64 (L.getD j ⟨0, 0, 0, 0⟩).x0) ∧ w.cell? ⟨b, j * 4 + 1, none⟩ = some (.int .i64 (L.getD j ⟨0, 0, 0, 0⟩).y0) ∧
  w.cell? ⟨b, j * 4 + 2, none⟩ = some (.int .i64 (L.getD j ⟨0, 0, 0, 0⟩).x1) ∧ w.cell? ⟨b, j * 4 + 3, none⟩ = some (.int .i64 (L.getD j ⟨0, 0, 0, 0⟩).y1)
theorem RcsIs.below {w w' : World} {a : Option Addr} {L : List Rc} (h : RcsIs w a L) (hb : Below w.heap.size w w') : RcsIs w' a L := fun j hj => by
  obtain ⟨b, ha, h0, h1, h2, h3⟩ := h j hj
  exact ⟨b, ha, bkeep hb h0, bkeep hb h1, bkeep hb h2, bkeep hb h3⟩
theorem flat_get (L : List Rc) (j : Nat) (hj : j < L.length) :
    (flat L)[j * 4]? = some (.int .i64 (L.getD j ⟨0, 0, 0, 0⟩).x0) ∧ (flat L)[j * 4 + 1]? = some (.int .i64 (L.getD j ⟨0, 0, 0, 0⟩).y0) ∧
    (flat L)[j * 4 + 2]? = some (.int .i64 (L.getD j ⟨0, 0, 0, 0⟩).x1) ∧ (flat L)[j * 4 + 3]? = some (.int .i64 (L.getD j ⟨0, 0, 0, 0⟩).y1) := by
  induction L generalizing j with
  | nil => simp at hj
  | cons r L ih =>
    have e : flat (r :: L) = .int .i64 r.x0 :: .int .i64 r.y0 :: .int .i64 r.x1 :: .int .i64 r.y1 :: flat L := rfl
    rw [e]
    cases j with
    | zero => simp
    | succ j =>
      have := ih j (by simpa using hj)
      have e4 : (j + 1) * 4 = j * 4 + 4 := by omega
      rw [e4]
      simpa using this
/-- a new slice of rectangles came back, and only new blocks came -/
def RcsPost (L : List Rc) (w : World) (e : Ending) (w' : World) : Prop := ∃ a cap, e = .returned (.slice a L.length cap) ∧ RcsIs w' a L ∧ Below w.heap.size w w'
theorem rcs_of {L : List Rc} {w : World} {e : Ending} {w' : World} (h : SubPost L w e w') : RcsPost L w e w' := by
  obtain ⟨v, rfl, ⟨hl, ho⟩, hb⟩ := h
  rcases ho with ⟨rfl, h0⟩ | ⟨g, cap, cur, rfl, hg, hh, hn, hm, hs, ht⟩
  · refine ⟨none, 0, by rw [h0], fun j hj => by omega, hb⟩
  · refine ⟨some ⟨g, 0, none⟩, cap, rfl, fun j hj => ⟨g, rfl, ?_⟩, hb⟩
    have hown : w'.ownsRow w.heap.size 26 4 (.slice (some ⟨g, 0, none⟩) L.length cap) L.length (flat L) := ⟨hl, .inr ⟨g, cap, cur, rfl, hg, hh, hn, hm, hs, ht⟩⟩
    obtain ⟨f0, f1, f2, f3⟩ := flat_get L j hj
    refine ⟨?_, ?_, ?_, ?_⟩
    · rw [hown.cellAt _ (by omega)]; exact f0
    · rw [hown.cellAt _ (by omega)]; exact f1
    · rw [hown.cellAt _ (by omega)]; exact f2
    · rw [hown.cellAt _ (by omega)]; exact f3
theorem sub_rcs {a b c d a' b' c' d' : Int} {L : List Rc} (h : subL a b c d a' b' c' d' = L) (w : World) :
    Calls Try.prog 20 #[.agg #[.int .i64 a, .int .i64 b, .int .i64 c, .int .i64 d], .agg #[.int .i64 a', .int .i64 b', .int .i64 c', .int .i64 d']] w (RcsPost L w) := by
  subst h; exact (sub_any a b c d a' b' c' d' w).mono fun _ _ h => rcs_of h
theorem rsub_rcs {a b c d a' b' c' d' : Int} {L : List Rc} (h : subL a b c d a' b' c' d' = L) (w : World) :
    Calls Try.prog 25 #[.agg #[.int .i64 a, .int .i64 b, .int .i64 c, .int .i64 d], .agg #[.int .i64 a', .int .i64 b', .int .i64 c', .int .i64 d']] w (RcsPost L w) := by
  subst h; exact (rsub_any a b c d a' b' c' d' w).mono fun _ _ h => rcs_of h
end Go.Proofs.Ytbdedlmpcdelfaa
