/- A list of ints that grows by append: nil, or the whole of a block of its own. -/
import Derived.Test.YtibmoibhbgbfoaaPPlain
namespace Go.Proofs.Ytibmoibhbgbfoaa
open Go.ChangeShapes Go.WideShapes Go.ChangeAt Go.RowKit
set_option linter.unusedVariables false
set_option linter.unusedSimpArgs false

/-- a list in a block of its own, made since 'base', or nil where it is empty -/
def OwnL (base : Nat) (w : World) (v : Value) (L : List Int) : Prop := w.ownsRow base 3 1 v L.length (ints L)
theorem OwnL.nil (base : Nat) (w : World) : OwnL base w (.slice none 0 0) [] := ⟨rfl, .inl ⟨rfl, rfl⟩⟩
theorem OwnL.below {base : Nat} {w w' : World} {v : Value} {L : List Int} (h : OwnL base w v L) (hb : Below w.heap.size w w') : OwnL base w' v L := own_below h hb
theorem OwnL.slice {base : Nat} {w : World} {v : Value} {L : List Int} (h : OwnL base w v L) : ∃ a cap, v = .slice a L.length cap ∧ SliceIs w a L := by
  rcases h.2 with ⟨rfl, hn⟩ | ⟨g, cap, cur, rfl, _⟩
  · exact ⟨none, 0, by rw [hn], fun k hk => by omega⟩
  · exact ⟨_, cap, rfl, PixAt.isS h⟩
theorem OwnL.more {base : Nat} {w' : World} {v : Value} {L : List Int} {n : Int} (h : w'.ownsRow base 3 1 v (L.length + 1) (ints L ++ [.int .i64 n])) : OwnL base w' v (L ++ [n]) := by
  unfold OwnL
  simpa [ints] using h
theorem OwnL.lt {base : Nat} {w : World} {v : Value} {L : List Int} (h : OwnL base w v L) {g : Nat} (e : v.ownBlock = some g) : base ≤ g ∧ g < w.heap.size := World.ownsRow.lt h g e
end Go.Proofs.Ytibmoibhbgbfoaa
