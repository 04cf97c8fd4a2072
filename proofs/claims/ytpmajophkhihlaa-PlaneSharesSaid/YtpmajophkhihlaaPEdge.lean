/- The tape's edges: a policy, and a Fill where the policy is the constant one. -/
import Derived.Test.YtpmajophkhihlaaPTape
namespace Go.Proofs.Ytpmajophkhihlaa
open Go.ChangeShapes Go.WideShapes Go.ChangeAt Go.RowKit
set_option linter.unusedVariables false
set_option linter.unusedSimpArgs false

theorem ret_edge {fn : Func} {a : Act} {w9 : World} {p s : Nat} {v0 v1 : Value} {Q : Ending → World → Prop} (hres : fn.results = #[.cell s 45]) (hs : a.tmps.getD s undef = .pointer (some ⟨p, 0, none⟩)) (hd : a.defers = [])
    (k0 : w9.cell? ⟨p, 0, none⟩ = some v0) (k1 : w9.cell? ⟨p, 1, none⟩ = some v1) (hQ : Q (.returned (.agg #[v0, v1])) w9) :
    bodyPost Try.prog fn Q .ret a w9 := by
  refine bodyPost_ret (v := .agg #[v0, v1]) ?_ hd hQ
  rw [Array.getD_eq_getD_getElem?] at hs
  simp [results, hres, hs, go_sem, k0, k1]
theorem pick_three (W : World) (p : Nat) (a : Option Addr) (cap : Nat) (xs : List Int) (y0 y1 y2 : Int) (s c : Nat) (w : World) (h : TapeSome W w p a cap xs) (hsp : ¬ s = p)
    (h0 : w.cell? ⟨s, 0, none⟩ = some (.int .i64 y0)) (h1 : w.cell? ⟨s, 1, none⟩ = some (.int .i64 y1)) (h2 : w.cell? ⟨s, 2, none⟩ = some (.int .i64 y2)) :
    Calls Try.prog 32 #[.pointer (some ⟨p, 0, none⟩), .slice (some ⟨s, 0, none⟩) 3 c] w
      fun e w' => ∃ m : Int, e = .returned (.int .i64 m) ∧ (m = y0 ∨ m = y1 ∨ m = y2) ∧ TapeSome W w' p a cap xs ∧ w.grownBy w' (some p) := by
  have := pick_some W p a cap xs s c [y0, y1, y2] w h hsp (by simp) (by simp) (by
    intro j hj
    simp at hj
    rcases (show j = 0 ∨ j = 1 ∨ j = 2 by omega) with rfl | rfl | rfl <;> simpa)
  refine this.mono fun e w' ⟨m, he, hm, hT, hg⟩ => ⟨m, he, ?_, hT, hg⟩
  simpa using hm
/-- an edge came back; beside new blocks the tape's alone has changed -/
def EdgeOf (W : World) (p : Nat) (a : Option Addr) (cap : Nat) (xs : List Int) (mx : Int) (w : World) (e : Ending) (w' : World) : Prop :=
  ∃ q f : Int, e = .returned (.agg #[.int .i64 q, .int .i64 f]) ∧ (0 ≤ q ∧ q ≤ 3) ∧ (q = 3 ∨ f = 0) ∧ (f = 0 ∨ f = mx ∨ f = mx.tdiv 2) ∧ TapeSome W w' p a cap xs ∧ w.grownBy w' (some p)
theorem pair_kept {w0 w1 : World} {p : Nat} {v0 v1 : Value} {t : TypeId} (hg : (w0.alloc (.cells #[v0, v1] t)).grownBy w1 (some p)) (hne : ¬ w0.heap.size = p) :
    w1.cell? ⟨w0.heap.size, 0, none⟩ = some v0 ∧ w1.cell? ⟨w0.heap.size, 1, none⟩ = some v1 ∧ w1.frozen? ⟨w0.heap.size, 0, none⟩ = false ∧ w1.frozen? ⟨w0.heap.size, 1, none⟩ = false := by
  have h0 : w1.heap[w0.heap.size]? = some (.cells #[v0, v1] t) := by
    rw [hg.block w0.heap.size (by simp) (by simpa using hne)]
    exact heap_alloc_new w0 _
  exact ⟨by rw [cell_of_row w1 _ 0 _ t (0, 0) h0]; rfl, by rw [cell_of_row w1 _ 1 _ t (0, 0) h0]; rfl, frozen_of_row w1 _ 0 _ t h0, frozen_of_row w1 _ 1 _ t h0⟩
theorem pair_more {w1 w2 : World} {p b : Nat} {v0 v1 : Value} (hg : w1.grownBy w2 (some p)) (hne : ¬ b = p) (h : w1.cell? ⟨b, 0, none⟩ = some v0 ∧ w1.cell? ⟨b, 1, none⟩ = some v1 ∧ w1.frozen? ⟨b, 0, none⟩ = false ∧ w1.frozen? ⟨b, 1, none⟩ = false) :
    w2.cell? ⟨b, 0, none⟩ = some v0 ∧ w2.cell? ⟨b, 1, none⟩ = some v1 ∧ w2.frozen? ⟨b, 0, none⟩ = false ∧ w2.frozen? ⟨b, 1, none⟩ = false := by
  obtain ⟨h0, h1, h2, h3⟩ := h
  exact ⟨hg.cell h0 (by simpa using hne), hg.cell h1 (by simpa using hne), by rw [hg.frozen_far _ (World.block_lt_of_cell? _ _ h0) (by simpa using hne)]; exact h2, by rw [hg.frozen_far _ (World.block_lt_of_cell? _ _ h1) (by simpa using hne)]; exact h3⟩
set_option maxHeartbeats 1000000 in
theorem edge_tape (W : World) (p : Nat) (a : Option Addr) (cap : Nat) (xs : List Int) (mx : Int) (w : World) (hT : TapeSome W w p a cap xs) (x0 : -9223372036854775808 ≤ mx) (x1 : mx ≤ 9223372036854775807) :
    Calls Try.prog 25 #[.pointer (some ⟨p, 0, none⟩), .int .i64 mx] w (EdgeOf W p a cap xs mx w) := by
  have hT0 := Lib.hid (hT.alloc (.cells #[.int .i64 0, .int .i64 0] 45))
  have hlt := hT.lt
  have n0 : ¬ w.heap.size = p := by omega
  clear hT
  go_enter Try.func25, Try.ntmps25
  go_wp2_with fail
  refine (next_some W p a cap xs _ _ hT0.out (by omega) (by omega)).mono ?_; rintro e w1 ⟨q, rfl, ⟨q0, q1⟩, hT1, hg1⟩
  obtain ⟨r0, r1, r2, r3⟩ := pair_kept hg1 n0
  have hT1' := Lib.hid hT1
  have hg1' := Lib.hid hg1
  have hw1 : w.heap.size < w1.heap.size := by have h1 := hg1.size; simp at h1; omega
  have hp1 := hT1.lt
  clear hT1 hg1
  have hq2 : IntKind.i64.wrap (mx.tdiv 2) = mx.tdiv 2 := by
    have hm := Int.tmod_add_mul_tdiv mx 2
    have hb := tmod_bd mx 2 (by omega)
    exact IntWalk.i64_in _ (by omega)
  by_cases h3 : q = 3
  · subst h3
    go_wp2_with fail
    refine (pick_three W p a cap xs 0 mx (mx.tdiv 2) _ _ _ ((hT1'.out.alloc _).alloc _) (by omega) (by go_cell) (by go_cell) (by go_cell)).mono ?_; rintro e w2 ⟨f, rfl, hf, hT2, hg2⟩
    have n1 : ¬ w1.heap.size = p := by omega
    obtain ⟨s0, s1, s2, s3⟩ := pair_more (v0 := .int .i64 3) (v1 := .int .i64 0) hg2 n1 ⟨by go_cell, by go_cell, by go_cell, by go_cell⟩
    obtain ⟨t0, t1, t2, t3⟩ := pair_more (gthen (galloc (galloc (gref w1 _) _) _) hg2) n0 ⟨r0, r1, r2, r3⟩
    have hT2' := Lib.hid hT2
    have hg2' := Lib.hid hg2
    have ne : ¬ w.heap.size = w1.heap.size := by omega
    clear hT2 hg2 r0 r1 r2 r3
    go_wp2_with fail
    refine ret_edge Try.results25 rfl rfl (v0 := .int .i64 3) (v1 := .int .i64 f) (by go_cell) (by go_cell) ⟨3, f, rfl, by omega, by omega, by omega, ?_, ?_⟩
    · exact ((hT2'.out.grown (by omega) (by omega) _ _).grown (by omega) (by omega) _ _).grown (by omega) (by omega) _ _
    · exact gset (gset (gset (gthen (galloc (galloc (gthen (galloc (gref w _) _) hg1'.out) _) _) hg2'.out) (.inl (by omega)) _ _) (.inl (by omega)) _ _) (.inl (by omega)) _ _
  · have h3' : ¬ q = 3 := h3
    go_wp2_with fail
    refine ret_edge Try.results25 rfl rfl (v0 := .int .i64 q) (v1 := .int .i64 0) (by go_cell) (by go_cell) ⟨q, 0, rfl, by omega, .inr rfl, .inl rfl, ?_, ?_⟩
    · (repeat (first | exact hT1'.out | with_reducible refine TapeSome.alloc ?_ _ | with_reducible refine TapeSome.grown ?_ (by omega) (by omega) _ _))
    · (repeat (first | with_reducible exact gref w _ | with_reducible refine galloc ?_ _ | with_reducible refine gset ?_ (.inl (by omega)) _ _ | with_reducible refine gthen ?_ hg1'.out))
end Go.Proofs.Ytpmajophkhihlaa
