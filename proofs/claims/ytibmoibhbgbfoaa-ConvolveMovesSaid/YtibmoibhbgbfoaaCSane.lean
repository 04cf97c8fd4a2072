/- The chapter's example: the sanity check of layer 9 returns true; the world gets new blocks at most. -/
import Derived.Test.YtibmoibhbgbfoaaLaw
import Derived.Deep.DeepCutAuto
import Derived.Test.YtibmoibhbgbfoaaCProg
namespace Go.Proofs.Ytibmoibhbgbfoaa
open Go.ChangeShapes Go.WideShapes Go.ChangeAt Go.RowKit
set_option linter.unusedVariables false
set_option linter.unusedSimpArgs false

theorem ex_tile : tileC 3 1 8 [0, 8, 0] 0 0 3 1 [1, 2, 1] 2 255 0 0 3 1 = 0 ∧ tileO 3 1 8 [0, 8, 0] 0 0 3 1 [1, 2, 1] 2 255 0 0 3 1 = some [2, 4, 2] ∧ checkC 8 3 1 [1, 2, 1] 2 255 = 0 := by decide +kernel
theorem lit3 (w : World) (x y z : Int) (t : TypeId) : SliceIs (w.alloc (.cells #[.int .i64 x, .int .i64 y, .int .i64 z] t)) (some ⟨w.heap.size, 0, none⟩) [x, y, z] := fun k hk => ⟨_, _, rfl, by
  rw [Nat.zero_add, World.cell?_alloc_new]
  simp at hk; rcases (show k = 0 ∨ k = 1 ∨ k = 2 by omega) with rfl | rfl | rfl <;> rfl⟩
set_option maxRecDepth 100000 in
set_option maxHeartbeats 4000000 in
theorem sane_any (w : World) : Calls Try.prog 14 #[] w (TestPost true w) := by
  have HB := Lib.hid (bref w)
  go_enter Try.func14, Try.ntmps14
  go_wp2_with fail
  have S1 := Lib.hid (lit3 w 0 8 0 3)
  have B1 := Lib.hid (balloc (bref (w.alloc (.cells #[.int .i64 0, .int .i64 8, .int .i64 0] 3))) (.cells #[.int .i64 3, .int .i64 1, .int .i64 8, .slice (some ⟨w.heap.size, 0, none⟩) 3 3] 35))
  obtain ⟨wB, eB⟩ : ∃ wB, (w.alloc (.cells #[.int .i64 0, .int .i64 8, .int .i64 0] 3)).alloc (.cells #[.int .i64 3, .int .i64 1, .int .i64 8, .slice (some ⟨w.heap.size, 0, none⟩) 3 3] 35) = wB := ⟨_, rfl⟩
  have hsB : wB.heap.size = w.heap.size + 1 + 1 := by rw [← eB]; simp
  have hBB : Below w.heap.size w wB := by rw [← eB]; exact balloc (balloc (bref w) _) _
  rw [eB] at B1
  rw [eB, ← hsB]
  have S2 := Lib.hid (is_below (is_below S1.out B1.out) (balloc (bref wB) (.cells #[.int .i64 1, .int .i64 2, .int .i64 1] 3)))
  have S3 := Lib.hid (lit3 wB 1 2 1 3)
  have HB2 := Lib.hid (balloc hBB (.cells #[.int .i64 1, .int .i64 2, .int .i64 1] 3))
  clear S1 B1 HB
  refine (ctile_any 3 1 8 [0, 8, 0] _ 3 0 0 3 1 [1, 2, 1] _ 3 3 2 255 0 0 3 1 _ S2.out (by simp) S3.out rfl (by decide)).mono ?_; rintro e w1 ⟨hb, h⟩
  rw [ex_tile.2.1] at h
  obtain ⟨g, c, rfl, hp⟩ := h
  simp only [pv]
  have HB3 := Lib.hid (bthen HB2.out hb)
  have c0 := hp.cell (k := 0) (by simp)
  have c1 := hp.cell (k := 1) (by simp)
  clear hb S2 S3 HB2 hp eB hsB hBB
  simp only [List.getD_cons_zero, List.getD_cons_succ, List.length_cons, List.length_nil, Nat.zero_add] at c0 c1 ⊢
  have d0 : ∀ o : Obj, (w1.alloc o).cell? ⟨g, 0, none⟩ = some (.int .i64 2) := fun o => bkeep (balloc (bref _) o) c0
  have d1 : ∀ o : Obj, (w1.alloc o).cell? ⟨g, 1, none⟩ = some (.int .i64 4) := fun o => bkeep (balloc (bref _) o) c1
  clear c0 c1
  go_wp2_with fail
  obtain ⟨wC, eC⟩ : ∃ wC, w1.alloc (.cells #[.int .i64 3, .int .i64 1, .int .i64 255, .slice (some ⟨g, 0, none⟩) 3 c] 35) = wC := ⟨_, rfl⟩
  have HB4 := Lib.hid (balloc HB3.out (.cells #[.int .i64 3, .int .i64 1, .int .i64 255, .slice (some ⟨g, 0, none⟩) 3 c] 35))
  rw [eC] at HB4
  have hsC : wC.heap.size = w1.heap.size + 1 := by rw [← eC]; simp
  rw [eC, ← hsC]
  have S4 := Lib.hid (lit3 wC 1 2 1 3)
  have HB5 := Lib.hid (balloc HB4.out (.cells #[.int .i64 1, .int .i64 2, .int .i64 1] 3))
  refine (ccheck_n 8 3 1 [1, 2, 1] 2 255 3 rfl _ _ _ S4.out (by decide)).mono ?_; rintro e w2 ⟨rfl, hb⟩
  have HB6 := Lib.hid (bthen HB5.out hb)
  rw [ex_tile.2.2]
  clear hb d0 d1 eC
  go_wp2_with fail
  go_returns
  exact ⟨rfl, HB6.out⟩
theorem sane_is (W : World) : Calls Try.prog 14 #[] W fun e w' => e = .returned (.bool true) ∧ Below W.heap.size W w' := sane_any W
end Go.Proofs.Ytibmoibhbgbfoaa
