/- A choice among numbers that are written out, as a contract of the tape. -/
import Derived.Test.YtibmoibhbgbfoaaWithin
namespace Go.Proofs.Ytibmoibhbgbfoaa
open Go.ChangeShapes Go.WideShapes Go.ChangeAt Go.RowKit
set_option linter.unusedVariables false
set_option linter.unusedSimpArgs false

theorem pick_lit {ys : List Int} (W : World) (p : Nat) (a : Option Addr) (cap : Nat) (xs : List Int) (c : Nat) (w : World) (t : TypeId) (cs : Array Value) (h : TapeSome W w p a cap xs) (h1 : 1 ≤ ys.length) (h2 : ys.length ≤ 1000) (hc : ∀ j, j < ys.length → cs[j]? = some (.int .i64 (ys.getD j 0))) :
    Calls Try.prog 11 #[.pointer (some ⟨p, 0, none⟩), .slice (some ⟨w.heap.size, 0, none⟩) ys.length c] (w.alloc (.cells cs t)) fun e w' => ∃ m : Int, e = .returned (.int .i64 m) ∧ TapeSome W w' p a cap xs ∧ w.grownBy w' (some p) := by
  obtain ⟨k, hk⟩ := h
  have hlt := hk.lt
  have := pick_any W p a cap xs k w.heap.size c ys (w.alloc (.cells cs t)) (hk.more (balloc (bref w) _)) (by omega) h1 (by omega) (fun j hj => by rw [World.cell?_alloc_new]; exact hc j hj)
  exact this.mono fun e w' hh => by
    obtain ⟨m, k', he, hm, hT, hg⟩ := hh
    exact ⟨m, he, ⟨k', hT⟩, gthen (galloc (gref w _) _) hg⟩
/-- the same, with which number it is -/
theorem pick_litm {ys : List Int} (W : World) (p : Nat) (a : Option Addr) (cap : Nat) (xs : List Int) (c : Nat) (w : World) (t : TypeId) (cs : Array Value) (h : TapeSome W w p a cap xs) (h1 : 1 ≤ ys.length) (h2 : ys.length ≤ 1000) (hc : ∀ j, j < ys.length → cs[j]? = some (.int .i64 (ys.getD j 0))) :
    Calls Try.prog 11 #[.pointer (some ⟨p, 0, none⟩), .slice (some ⟨w.heap.size, 0, none⟩) ys.length c] (w.alloc (.cells cs t)) fun e w' => ∃ m : Int, e = .returned (.int .i64 m) ∧ m ∈ ys ∧ TapeSome W w' p a cap xs ∧ w.grownBy w' (some p) := by
  obtain ⟨k, hk⟩ := h
  have hlt := hk.lt
  have := pick_any W p a cap xs k w.heap.size c ys (w.alloc (.cells cs t)) (hk.more (balloc (bref w) _)) (by omega) h1 (by omega) (fun j hj => by rw [World.cell?_alloc_new]; exact hc j hj)
  exact this.mono fun e w' hh => by
    obtain ⟨m, k', he, hm, hT, hg⟩ := hh
    exact ⟨m, he, hm, ⟨k', hT⟩, gthen (galloc (gref w _) _) hg⟩
end Go.Proofs.Ytibmoibhbgbfoaa
