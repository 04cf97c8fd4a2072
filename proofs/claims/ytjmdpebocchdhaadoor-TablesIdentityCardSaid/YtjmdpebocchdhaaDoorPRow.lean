/- Rows of ints in blocks of their own: made, kept, stored into; the pixels of a plane that a call has made. -/
import Derived.Test.YtjmdpebocchdhaaDoorPPlain
import Derived.Deep.AppendLies
import Derived.Laws.OwnMore
import Derived.Laws.CopyOwn
namespace Go.Proofs.YtjmdpebocchdhaaDoor
open Go.ChangeShapes Go.WideShapes Go.ChangeAt Go.RowKit
set_option linter.unusedVariables false
set_option linter.unusedSimpArgs false

def ints (L : List Int) : List Value := L.map (fun v => Value.int .i64 v)
theorem ints_len (L : List Int) : (ints L).length = L.length := by simp [ints]
theorem ints_at (L : List Int) (k : Nat) : (ints L)[k]? = if k < L.length then some (.int .i64 (L.getD k 0)) else none := by
  unfold ints
  by_cases h : k < L.length
  · simp [h, List.getD_eq_getElem?_getD]
  · simp [h]
theorem ints_one {L : List Int} : ∀ v ∈ ints L, v.oneCell' = true := by
  intro v hv
  simp [ints] at hv
  obtain ⟨a, _, rfl⟩ := hv
  rfl
theorem ints_set (L : List Int) (k : Nat) (v : Int) : (ints L).set k (.int .i64 v) = ints (L.set k v) := by simp [ints, List.map_set]
/-- a slice that is the whole of a block of its own, made since 'base': its numbers -/
def PixAt (base : Nat) (w : World) (g cap : Nat) (L : List Int) : Prop := w.ownsRow base 3 1 (.slice (some ⟨g, 0, none⟩) L.length cap) L.length (ints L)
theorem PixAt.lt {base : Nat} {w : World} {g cap : Nat} {L : List Int} (h : PixAt base w g cap L) : base ≤ g ∧ g < w.heap.size := World.ownsRow.lt h g rfl
theorem PixAt.cell {base : Nat} {w : World} {g cap : Nat} {L : List Int} (h : PixAt base w g cap L) {k : Nat} (hk : k < L.length) : w.cell? ⟨g, k, none⟩ = some (.int .i64 (L.getD k 0)) := by
  have := World.ownsRow.cellAt h k (by omega)
  rw [this, ints_at, if_pos hk]
theorem PixAt.frozen {base : Nat} {w : World} {g cap : Nat} {L : List Int} (h : PixAt base w g cap L) (k : Nat) : w.frozen? ⟨g, k, none⟩ = false := World.ownsRow.frozenAt h k
theorem PixAt.isS {base : Nat} {w : World} {g cap : Nat} {L : List Int} (h : PixAt base w g cap L) : SliceIs w (some ⟨g, 0, none⟩) L := fun k hk => ⟨g, 0, rfl, by rw [Nat.zero_add]; exact h.cell hk⟩
theorem PixAt.below {base : Nat} {w w' : World} {g cap : Nat} {L : List Int} (h : PixAt base w g cap L) (hb : Below w.heap.size w w') : PixAt base w' g cap L := own_below h hb
theorem PixAt.grown {base : Nat} {w w' : World} {g cap : Nat} {L : List Int} {row : Option Nat} (h : PixAt base w g cap L) (hg : w.grownBy w' row) (hne : ¬ some g = row) : PixAt base w' g cap L := World.ownsRow.kept h hg (.inr hne)
theorem PixAt.base {base b2 : Nat} {w : World} {g cap : Nat} {L : List Int} (h : PixAt base w g cap L) (hb : b2 ≤ base) : PixAt b2 w g cap L := World.ownsRow.mono h hb
theorem PixAt.store {base : Nat} {w : World} {g cap : Nat} {L : List Int} (h : PixAt base w g cap L) (k : Nat) (v : Int) : PixAt base (w.setCell ⟨g, k, none⟩ (.int .i64 v)) g cap (L.set k v) ∧ w.grownBy (w.setCell ⟨g, k, none⟩ (.int .i64 v)) (some g) := by
  obtain ⟨h1, h2⟩ := World.ownsRow.stored h k (.int .i64 v)
  rw [ints_set] at h1
  refine ⟨?_, h2⟩
  unfold PixAt
  rw [List.length_set]
  exact h1
theorem PixAt.drewN {base : Nat} {w : World} {g cap : Nat} {L : List Int} (h : PixAt base w g cap L) (n : Nat) : PixAt base (w.drewN n) g cap L := PixAt.below h (bdrewN (bref w) n)
/-- a whole block -/
def RowIs (w : World) (g : Nat) (L : List Int) : Prop := w.heap[g]? = some (.cells (ints L).toArray 3 (0, 0))
theorem RowIs.pix {base : Nat} {w : World} {g : Nat} {L : List Int} (h : RowIs w g L) (hb : base ≤ g) (hl : L.length ≤ maxLen) : PixAt base w g L.length L :=
  ⟨by simp [ints], .inr ⟨g, L.length, (ints L).toArray, rfl, hb, h, Nat.le_refl _, hl, by simp [ints], by rw [List.take_of_length_le (by simp [ints])]⟩⟩
theorem infoI : (Tryd.prog.info? 3).map (fun i => (i.zero, i.size, i.bytes)) = some (some (.int .i64 0), 1, 8) := by kernel_rfl
theorem run_zeros (n : Nat) (hn : n ≤ 16384) : ∃ A : Array Value, A = (ints (List.replicate n 0)).toArray ∧ ∀ W : World, (Instr.makeSlice 22 (.int .i64 (n : Int)) (.int .i64 (n : Int))).run Tryd.prog W = .ok (.slice (some ⟨W.heap.size, 0, none⟩) n n) (W.alloc (.cells A 3)) := by
  obtain ⟨i0, hi, hz0, hz1, hz2⟩ := info_parts infoI
  refine ⟨madeCells (Value.cells (.int .i64 0)) (n * 1), ?_, fun W => ?_⟩
  · have : (madeCells (Value.cells (.int .i64 0)) (n * 1)).toList = ints (List.replicate n 0) := by
      rw [Nat.mul_one, show Value.cells (.int .i64 0) = #[.int .i64 0] from rfl, toList_madeCells_one]
      simp [ints]
    rw [← this]
  · have := run_make W 22 3 i0 (.int .i64 0) Tryd.underlying22 hi hz0 .i64 .i64 (n : Int) (n : Int) (by omega) (by omega) (by rw [hz2]; omega) (by omega)
    rw [this, hz1]
    simp
theorem row_new (w : World) (L : List Int) : RowIs (w.alloc (.cells (ints L).toArray 3)) w.heap.size L := heap_alloc_new w _
end Go.Proofs.YtjmdpebocchdhaaDoor
