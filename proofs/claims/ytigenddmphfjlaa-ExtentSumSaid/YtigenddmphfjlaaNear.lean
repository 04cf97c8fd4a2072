/- Three rows of numbers around three ints: what the cells of the three new slices hold, and that each pair of them is far from the other. -/
import Derived.Test.YtigenddmphfjlaaLeaf
import Derived.Deep.Quiet
namespace Go.Proofs.Ytigenddmphfjlaa
open Go.ChangeShapes Go.WideShapes Go.ChangeAt Go.RowKit
set_option linter.unusedVariables false

/-- the number at a place of near -/
def nearV (n : Int) (k : Nat) : Int := match k with | 0 => n | 1 => n % 100 | 2 => n % 4294967296 | _ => -1
theorem nearV_bd (n : Int) (k : Nat) (h2 : -9223372036854775808 ≤ n) (h3 : n ≤ 9223372036854775807) : -9223372036854775808 ≤ nearV n k ∧ nearV n k ≤ 9223372036854775807 := by
  unfold nearV; split <;> omega
/-- a new block of four numbers, and nothing else -/
def NearRow (n : Int) (w w' : World) : Prop := w.alloc (.cells #[.int .i64 n, .int .i64 (n % 100), .int .i64 (n % 4294967296), .int .i64 (-1)] 3) = w'
theorem near_row (n : Int) (w : World) (h2 : -9223372036854775808 ≤ n) (h3 : n ≤ 9223372036854775807) :
    Calls Try.prog 8 #[.int .i64 n] w fun e w' => e = .returned (.slice (some ⟨w.heap.size, 0, none⟩) 4 4) ∧ NearRow n w w' :=
  near_any n w h2 h3
theorem NearRow.cell {n : Int} {w w' : World} (h : NearRow n w w') (k : Nat) (hk : k < 4) : w'.cell? ⟨w.heap.size, k, none⟩ = some (.int .i64 (nearV n k)) := by
  unfold NearRow at h
  subst h
  have : k = 0 ∨ k = 1 ∨ k = 2 ∨ k = 3 := by omega
  rcases this with rfl | rfl | rfl | rfl <;> simp [nearV, World.cell?_alloc_new]
theorem NearRow.size {n : Int} {w w' : World} (h : NearRow n w w') : w'.heap.size = w.heap.size + 1 := by
  unfold NearRow at h; subst h; simp
theorem NearRow.old {n : Int} {w w' : World} (h : NearRow n w w') {b k : Nat} (hb : b < w.heap.size) : w'.cell? ⟨b, k, none⟩ = w.cell? ⟨b, k, none⟩ := by
  unfold NearRow at h; subst h
  exact World.cell?_of_block (w := w) (Below.heap_alloc _ _ _ hb)
theorem NearRow.grown {n : Int} {a w w' : World} (g : Grown a w) (h : NearRow n w w') : Grown a w' := by
  unfold NearRow at h; subst h; exact g.alloc _ _
/-- the three rows, seen from the last world -/
theorem near3 {a b c : Int} {w wa wb wc : World} (HA : NearRow a w wa) (HB : NearRow b wa wb) (HC : NearRow c wb wc) :
    Grown w wc ∧ (∀ k, k < 4 → wc.cell? ⟨w.heap.size, k, none⟩ = some (.int .i64 (nearV a k))) ∧ (∀ k, k < 4 → wc.cell? ⟨wa.heap.size, k, none⟩ = some (.int .i64 (nearV b k))) ∧ (∀ k, k < 4 → wc.cell? ⟨wb.heap.size, k, none⟩ = some (.int .i64 (nearV c k))) := by
  have sa := HA.size
  have sb := HB.size
  refine ⟨HC.grown (HB.grown (HA.grown (Grown.refl _))), fun k hk => ?_, fun k hk => ?_, fun k hk => HC.cell k hk⟩
  · rw [HC.old (by omega), HB.old (by omega)]; exact HA.cell k hk
  · rw [HC.old (by omega)]; exact HB.cell k hk
theorem grown_drewN {a w : World} (h : Grown a w) (n : Nat) : Grown a (w.drewN n) := h
theorem grown_trans {a b c : World} (h : Grown a b) (k : Grown b c) : Grown a c := by
  refine ⟨?_, fun p => (k.2.1 p).trans (h.2.1 p), Nat.le_trans h.2.2 k.2.2⟩
  exact World.keptBut_trans h.1 k.1
theorem index_of (i j : Nat) (hi : i < 4) (hj : j < 4) : ∃ m : Nat, m < 4 ∧ (IntKind.i64.wrap ((i : Int) + j)).tmod 4 = m := by
  refine ⟨(i + j) % 4, by omega, ?_⟩
  rw [IntWalk.i64_in _ (by omega), Int.tmod_eq_emod_of_nonneg (by omega)]
  omega
/-- a callee that draws nothing, met where draws have been made -/
theorem quiet_add {P : Program} {f : FuncId} {args : Array Value} {w W : World} {n m : Nat} {v : Value}
    (h : Calls P f args W fun e w' => e = .returned v ∧ w' = w.drewN (n + m)) : Calls P f args W fun e w'' => e = .returned v ∧ ∃ m, w'' = w.drewN (n + m) :=
  h.mono fun _ _ ⟨he, hm⟩ => ⟨he, m, hm⟩
end Go.Proofs.Ytigenddmphfjlaa
