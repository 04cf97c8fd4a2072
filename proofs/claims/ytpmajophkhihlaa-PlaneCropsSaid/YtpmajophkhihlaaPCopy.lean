/- The contract of the reference's Copy: the same plane, its pixels in a block of their own; planes handed back out of a variable. -/
import Derived.Test.YtpmajophkhihlaaPNew
import Derived.Test.YtpmajophkhihlaaAgg
namespace Go.Proofs.Ytpmajophkhihlaa
open Go.ChangeShapes Go.WideShapes Go.ChangeAt Go.RowKit
set_option linter.unusedVariables false
set_option linter.unusedSimpArgs false

/-- a plane handed back out of a variable -/
theorem ret_plane {fn : Func} {a : Act} {w1 : World} {p s : Nat} {v0 v1 v2 v3 : Value} {Q : Ending → World → Prop} (hres : fn.results = #[.cell s 26]) (hs : a.tmps.getD s undef = .pointer (some ⟨p, 0, none⟩)) (hd : a.defers = [])
    (ht : Open4 w1 p) (hQ : Q (.returned (.agg #[v0, v1, v2, v3])) (put4 w1 p v0 v1 v2 v3)) :
    bodyPost Try.prog fn Q .ret a (put4 w1 p v0 v1 v2 v3) := by
  obtain ⟨k0, k1, k2, k3⟩ := put4_at ht v0 v1 v2 v3
  obtain ⟨w9, e9⟩ : ∃ w9, w9 = put4 w1 p v0 v1 v2 v3 := ⟨_, rfl⟩
  rw [← e9] at k0 k1 k2 k3 hQ ⊢
  clear e9
  refine bodyPost_ret (v := .agg #[v0, v1, v2, v3]) ?_ hd hQ
  rw [Array.getD_eq_getD_getElem?] at hs
  simp [results, hres, hs, go_sem, k0, k1, k2, k3]
/-- a plane out of a variable, and a test -/
theorem ret_plane2 {fn : Func} {a : Act} {w1 : World} {p s t : Nat} {v0 v1 v2 v3 u : Value} {Q : Ending → World → Prop} (hres : fn.results = #[.cell s 26, .tmp t]) (hs : a.tmps.getD s undef = .pointer (some ⟨p, 0, none⟩)) (hu : a.tmps.getD t undef = u) (hd : a.defers = [])
    (ht : Open4 w1 p) (hQ : Q (.returned (.tuple #[.agg #[v0, v1, v2, v3], u])) (put4 w1 p v0 v1 v2 v3)) :
    bodyPost Try.prog fn Q .ret a (put4 w1 p v0 v1 v2 v3) := by
  obtain ⟨k0, k1, k2, k3⟩ := put4_at ht v0 v1 v2 v3
  obtain ⟨w9, e9⟩ : ∃ w9, w9 = put4 w1 p v0 v1 v2 v3 := ⟨_, rfl⟩
  rw [← e9] at k0 k1 k2 k3 hQ ⊢
  clear e9
  refine bodyPost_ret (v := .tuple #[.agg #[v0, v1, v2, v3], u]) ?_ hd hQ
  rw [Array.getD_eq_getD_getElem?] at hs hu
  simp [results, hres, hs, hu, go_sem, k0, k1, k2, k3]
theorem slice_some {w : World} {a : Option Addr} {L : List Int} (h : SliceIs w a L) (h1 : 1 ≤ L.length) : ∃ b off, a = some ⟨b, off, none⟩ ∧ ∀ k, k < L.length → w.cell? ⟨b, off + k, none⟩ = some (.int .i64 (L.getD k 0)) := by
  obtain ⟨b, off, rfl, _⟩ := h 0 h1
  refine ⟨b, off, rfl, fun k hk => ?_⟩
  obtain ⟨b', off', e, hc⟩ := h k hk
  simp at e
  obtain ⟨rfl, rfl⟩ := e
  exact hc
theorem news_ints {w : World} {b off : Nat} {L : List Int} (h : ∀ k, k < L.length → w.cell? ⟨b, off + k, none⟩ = some (.int .i64 (L.getD k 0))) : ∀ j u, (ints L)[j]? = some u → w.cell? ((⟨b, off, none⟩ : Addr).add j) = some u := by
  intro j u hu
  rw [ints_at] at hu
  split at hu
  · rename_i hj
    simp at hu; subst hu
    rw [add_plain]; exact h j hj
  · cases hu
theorem bput4 {B : Nat} {w a : World} {p : Nat} (h : Below B w a) (hp : B ≤ p) (v0 v1 v2 v3 : Value) : Below B w (put4 a p v0 v1 v2 v3) :=
  (((h.setCell hp v0).setCell hp v1).setCell hp v2).setCell hp v3
/-- two blocks that were laid ahead are as they were -/
theorem two_kept {w : World} {cs ds : Array Value} {t t' : TypeId} {w1 : World} {row : Option Nat} (hg : ((w.alloc (.cells cs t)).alloc (.cells ds t')).grownBy w1 row) (hr : row = none) :
    (∀ j, w1.cell? ⟨w.heap.size, j, none⟩ = cs[j]?) ∧ (∀ j, w1.frozen? ⟨w.heap.size, j, none⟩ = false) ∧ (∀ j, w1.cell? ⟨w.heap.size + 1, j, none⟩ = ds[j]?) ∧ (∀ j, w1.frozen? ⟨w.heap.size + 1, j, none⟩ = false) := by
  subst hr
  have h0 : w1.heap[w.heap.size]? = some (.cells cs t) := by
    rw [hg.block w.heap.size (by simp; omega) (by simp)]
    rw [(MapKept.heap_alloc (w.alloc (.cells cs t)) (.cells ds t')).2 w.heap.size (by simp)]
    exact heap_alloc_new w _
  have h1 : w1.heap[w.heap.size + 1]? = some (.cells ds t') := by
    rw [hg.block (w.heap.size + 1) (by simp) (by simp)]
    have := heap_alloc_new (w.alloc (.cells cs t)) (.cells ds t')
    simpa using this
  refine ⟨fun j => cell_of_row w1 _ j cs t (0, 0) h0, fun j => frozen_of_row w1 _ j cs t h0, fun j => cell_of_row w1 _ j ds t' (0, 0) h1, fun j => frozen_of_row w1 _ j ds t' h1⟩
set_option maxHeartbeats 1000000 in
theorem rcopy_any (W H M : Int) (L : List Int) (a : Option Addr) (cap : Nat) (w : World) (hs : SliceIs w a L) (l1 : 1 ≤ L.length) (l2 : L.length ≤ 16384) :
    Calls Try.prog 11 #[.agg #[.int .i64 W, .int .i64 H, .int .i64 M, .slice a L.length cap]] w fun e w' => ∃ g c, e = .returned (pv W H M g L.length c) ∧ PixAt w.heap.size w' g c L ∧ Below w.heap.size w w' := by
  obtain ⟨b, off, rfl, hc⟩ := slice_some hs l1
  have hc' := Lib.hid hc
  have hs' := Lib.hid hs
  obtain ⟨i0, hi, hi0, hi1, hi2⟩ := info_parts infoI
  clear hc hs
  go_enter Try.func11, Try.ntmps11
  go_wp2_with (at_builtin; refine wpList_append_lies _ rfl _ _ _ rfl w.heap.size 3 i0 (.int .i64 0) 1 8 Try.underlying22 hi hi0 hi1 hi2 rfl (by decide) (.slice none 0 0) 0 [] rfl (World.ownsRow_nil _ _ _ _) ⟨b, off, none⟩ L.length cap (ints L) rfl (by simp [ints]) (news_ints (fun k hk => by have h0 := hc'.out k hk; rw [(balloc (balloc (bref w) _) _).cell (World.block_lt_of_cell? _ _ h0)]; exact h0)) ints_one (by omega) (by unfold maxLen; omega) (by omega) (by simp; omega) (w.heap.size + 1 + 1) (by simp) ?_; intro g c w1 hown hgrow hat hlt; obtain ⟨x0, x1, x2, x3⟩ := two_kept hgrow rfl; have z0 := x0 0; have z1 := x0 1; have z2 := x0 2; have z3 := x0 3; have u0 := x2 0; have u1 := x2 1; have u2 := x2 2; have u3 := x2 3; clear x0 x2; simp at z0 z1 z2 z3 u0 u1 u2 u3)
  have hB : Below w.heap.size w w1 := (balloc (balloc (bref w) _) _).grown hgrow (by simp; omega) (fun q e => by simp [Value.ownBlock] at e)
  have hg : ¬ g = w.heap.size ∧ ¬ g = w.heap.size + 1 := by
    rcases hat with hat | hat
    · simp [Value.ownBlock] at hat
    · omega
  have ho : PixAt w.heap.size w1 g c L := by simpa [PixAt] using hown
  have h4 : Open4 w1 (w.heap.size + 1) := fun k hk => by
    refine ⟨?_, x3 k⟩
    rcases (show k = 0 ∨ k = 1 ∨ k = 2 ∨ k = 3 by omega) with rfl | rfl | rfl | rfl
    · exact ⟨_, u0⟩
    · exact ⟨_, u1⟩
    · exact ⟨_, u2⟩
    · exact ⟨_, u3⟩
  refine ret_plane rfl rfl rfl (h4.set _ _) ⟨g, c, rfl, ?_, ?_⟩
  · refine PixAt.grown (PixAt.grown ho (grown_set _ _ _ _) (by simp; omega)) (gput4 (gref _ (some (w.heap.size + 1))) (.inr rfl) _ _ _ _) (by simp; omega)
  · exact bput4 (hB.setCell (Nat.le_refl _) _) (by omega) _ _ _ _
end Go.Proofs.Ytpmajophkhihlaa
