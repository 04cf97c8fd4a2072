/- The tape of choices: New, Next and Pick as contracts. Next gives a number from 0 to n - 1 and changes the tape's own block alone. -/
import Derived.Test.YtibmoibhbgbfoaaBase
import Derived.BigQuiet
import Derived.Deep.QuietTactic
import Derived.Laws.AppendOwn
import Derived.Maps.AppendAt
import Derived.OwnWalk
namespace Go.Proofs.Ytibmoibhbgbfoaa
open Go.ChangeShapes Go.WideShapes Go.ChangeAt Go.RowKit
set_option linter.unusedVariables false
set_option linter.unusedSimpArgs false

theorem tmod_bd (v n : Int) (h0 : 0 < n) : -n < v.tmod n ∧ v.tmod n < n := by
  rcases Int.lt_or_le v 0 with h | h
  · have e : v.tmod n = -((-v).tmod n) := by rw [Int.neg_tmod]; simp
    have hx : (-v).tmod n = (-v) % n := Int.tmod_eq_emod_of_nonneg (by omega)
    have := Int.emod_nonneg (-v) (show n ≠ 0 by omega)
    have := Int.emod_lt_of_pos (-v) h0
    omega
  · have hx : v.tmod n = v % n := Int.tmod_eq_emod_of_nonneg h
    have := Int.emod_nonneg v (show n ≠ 0 by omega)
    have := Int.emod_lt_of_pos v h0
    omega
theorem emod_of_neg (v n : Int) (h0 : 0 < n) (h : v.tmod n < 0) : v.tmod n + n = v % n := by
  have hb := tmod_bd v n h0
  have e : (v.tmod n) % n = v % n := by
    have h1 := Int.tmod_add_mul_tdiv v n
    conv => rhs; rw [← h1]
    exact (Int.add_mul_emod_self_left _ _ _).symm
  rw [← e, ← Int.add_emod_right]
  exact (Int.emod_eq_of_lt (by omega) (by omega)).symm
theorem emod_of_pos (v n : Int) (h0 : 0 < n) (h : 0 ≤ v.tmod n) : v.tmod n = v % n := by
  have hb := tmod_bd v n h0
  have e : (v.tmod n) % n = v % n := by
    have h1 := Int.tmod_add_mul_tdiv v n
    conv => rhs; rw [← h1]
    exact (Int.add_mul_emod_self_left _ _ _).symm
  rw [← e]
  exact (Int.emod_eq_of_lt (by omega) (by omega)).symm

theorem mod_any (v n : Int) (w : World) (h0 : 0 < n) (h1 : n ≤ 9223372036854775807) (h2 : -9223372036854775808 ≤ v) (h3 : v ≤ 9223372036854775807) :
    Calls Try.prog 24 #[.int .i64 v, .int .i64 n] w fun e w' => e = .returned (.int .i64 (v % n)) ∧ w = w' := by
  have hb := tmod_bd v n h0
  by_cases h : v.tmod n < 0
  · have H := Lib.hid (emod_of_neg v n h0 h)
    go_enter Try.func24, Try.ntmps24
    go_wp2
    go_ret
    exact ⟨ret_int H.out, rfl⟩
  · have H := Lib.hid (emod_of_pos v n h0 (by omega))
    go_enter Try.func24, Try.ntmps24
    go_wp2
    go_ret
    exact ⟨ret_int H.out, rfl⟩
theorem mod_q (v n : Int) (w : World) (h0 : 0 < n) (h1 : n ≤ 9223372036854775807) (h2 : -9223372036854775808 ≤ v) (h3 : v ≤ 9223372036854775807) :
    Calls Try.prog 24 #[.int .i64 v, .int .i64 n] w fun e w' => e = .returned (.int .i64 (v % n)) ∧ w' = w :=
  (mod_any v n w h0 h1 h2 h3).mono fun _ _ h => ⟨h.1, h.2.symm⟩
/-- ints of Go -/
def Fits (xs : List Int) : Prop := ∀ k, k < xs.length → -9223372036854775808 ≤ xs.getD k 0 ∧ xs.getD k 0 ≤ 9223372036854775807
/-- a slice's elements, wherever they lie; of an empty one nothing is said -/
def SliceIs (w : World) (a : Option Addr) (xs : List Int) : Prop := ∀ k, k < xs.length → ∃ b off, a = some ⟨b, off, none⟩ ∧ w.cell? ⟨b, off + k, none⟩ = some (.int .i64 (xs.getD k 0))
theorem is_below {W wr : World} {a : Option Addr} {xs : List Int} (h : SliceIs W a xs) (hb : Below W.heap.size W wr) : SliceIs wr a xs := by
  intro k hk
  obtain ⟨b, off, rfl, hc⟩ := h k hk
  exact ⟨b, off, rfl, by rw [hb.cell (World.block_lt_of_cell? _ _ hc)]; exact hc⟩
/-- a tape over a list that came in: W is the world in which the list was given -/
structure TapeIn (W w : World) (p : Nat) (a : Option Addr) (cap : Nat) (xs : List Int) (k : Nat) : Prop where
  below : Below W.heap.size W w
  lo : W.heap.size ≤ p
  sl : SliceIs W a xs
  fits : Fits xs
  len : xs.length ≤ 9223372036854775807
  c0 : w.cell? ⟨p, 0, none⟩ = some (.slice a xs.length cap)
  c1 : w.cell? ⟨p, 1, none⟩ = some (.int .i64 k)
  fz : w.frozen? ⟨p, 1, none⟩ = false
  le : k ≤ xs.length
theorem TapeIn.lt {W w : World} {p : Nat} {a : Option Addr} {cap : Nat} {xs : List Int} {k : Nat} (h : TapeIn W w p a cap xs k) : p < w.heap.size := World.block_lt_of_cell? _ _ h.c0
theorem TapeIn.more {W w w' : World} {p : Nat} {a : Option Addr} {cap : Nat} {xs : List Int} {k : Nat} (h : TapeIn W w p a cap xs k) (hb : Below w.heap.size w w') : TapeIn W w' p a cap xs k :=
  ⟨h.below.trans (hb.mono h.below.size), h.lo, h.sl, h.fits, h.len, by rw [hb.cell h.lt]; exact h.c0, by rw [hb.cell h.lt]; exact h.c1, by rw [hb.frozen h.lt]; exact h.fz, h.le⟩
theorem TapeIn.keep {W w w' : World} {p : Nat} {a : Option Addr} {cap : Nat} {xs : List Int} {k : Nat} {row : Option Nat} (h : TapeIn W w p a cap xs k) (hg : w.grownBy w' row) (hr : ∀ q, row = some q → W.heap.size ≤ q ∧ q ≠ p) : TapeIn W w' p a cap xs k := by
  have hne : some p ≠ row := fun e => (hr p e.symm).2 rfl
  refine ⟨h.below.grown hg h.below.size (fun q e => (hr q e).1), h.lo, h.sl, h.fits, h.len, hg.cell h.c0 hne, hg.cell h.c1 hne, ?_, h.le⟩
  rw [World.frozen?_of_block (hg.block p h.lt hne)]; exact h.fz
theorem TapeIn.next {W w : World} {p : Nat} {a : Option Addr} {cap : Nat} {xs : List Int} {k : Nat} (h : TapeIn W w p a cap xs k) (hk : k < xs.length) : TapeIn W (w.setCell ⟨p, 1, none⟩ (.int .i64 ((k + 1 : Nat) : Int))) p a cap xs (k + 1) := by
  refine ⟨h.below.setCell h.lo _, h.lo, h.sl, h.fits, h.len, ?_, World.cell?_setCell_same _ _ _ h.c1, ?_, hk⟩
  · rw [World.cell?_setCell_other _ _ _ _ (by simp)]; exact h.c0
  · rw [World.frozen?_setCell]; exact h.fz
theorem grown_set (w : World) (p o : Nat) (u : Value) : w.grownBy (w.setCell ⟨p, o, none⟩ u) (some p) :=
  ⟨rfl, rfl, rfl, by simp [World.setCell], fun i hi hne => Below.heap_setCell _ _ _ _ (fun e => hne (by rw [e]))⟩
theorem grown_drewN {a w : World} {row : Option Nat} (h : a.grownBy w row) (n : Nat) : a.grownBy (w.drewN n) row := ⟨h.os, h.tape, h.output, h.size, h.block⟩
theorem TapeIn.drewN {W w : World} {p : Nat} {a : Option Addr} {cap : Nat} {xs : List Int} {k : Nat} (h : TapeIn W w p a cap xs k) (n : Nat) : TapeIn W (w.drewN n) p a cap xs k :=
  ⟨⟨h.below.os, h.below.tape, h.below.output, h.below.size, h.below.block⟩, h.lo, h.sl, h.fits, h.len, h.c0, h.c1, h.fz, h.le⟩
/-- a choice came back: a number from 0 to n - 1, and beside new blocks the tape's alone has changed -/
def NextPost (W : World) (p : Nat) (a : Option Addr) (cap : Nat) (xs : List Int) (n : Int) (w : World) (e : Ending) (w' : World) : Prop :=
  ∃ (m : Int) (k : Nat), e = .returned (.int .i64 m) ∧ (0 ≤ m ∧ m < n) ∧ TapeIn W w' p a cap xs k ∧ w.grownBy w' (some p)
set_option maxHeartbeats 1000000 in
theorem next_any (W : World) (p : Nat) (a : Option Addr) (cap : Nat) (xs : List Int) (k : Nat) (n : Int) (w : World) (h : TapeIn W w p a cap xs k) (h0 : 1 ≤ n) (h1 : n ≤ 9223372036854775807) :
    Calls Try.prog 9 #[.pointer (some ⟨p, 0, none⟩), .int .i64 n] w (NextPost W p a cap xs n w) := by
  have hl := h.len
  have hk := h.le
  have c0 := h.c0
  have c1 := h.c1
  have fz := h.fz
  have d0 : decide (n < 1) = false := by simp; omega
  by_cases hlt : k < xs.length
  · obtain ⟨b, off, rfl, hcell⟩ := (is_below h.sl h.below) k hlt
    obtain ⟨x0, x1⟩ := h.fits k hlt
    have hbp : ¬ (b = p) := by
      obtain ⟨b', off', e, hcell'⟩ := h.sl k hlt
      have h3 : b' < W.heap.size := World.block_lt_of_cell? _ _ hcell'
      have := h.lo
      simp at e
      omega
    have H := Lib.hid h
    have hn := Lib.hid (h.next hlt)
    clear h
    have d1 : decide ((k : Int) ≥ xs.length) = false := by simp; omega
    have d2 : decide ((xs.length : Int) ≤ k) = false := by simp; omega
    have hs : IntKind.i64.wrap ((k : Int) + 1 - 1) = k := by rw [IntWalk.i64_in _ (by omega)]; omega
    obtain ⟨X, eX⟩ : ∃ X, xs.getD k 0 = X := ⟨_, rfl⟩
    rw [eX] at hcell x0 x1
    clear eX
    go_enter Try.func9, Try.ntmps9
    go_wp2_with fail
    go_quiet (fail)
    go_wp2_with fail
    obtain ⟨wt, hwt, hgt, hcb⟩ : ∃ wt, (w.drewN nq).setCell ⟨p, 1, none⟩ (.int .i64 ((k : Int) + 1)) = wt ∧ w.grownBy wt (some p) ∧ wt.cell? ⟨b, off + k, none⟩ = some (.int .i64 X) := by
      refine ⟨_, rfl, grown_drewN (grown_set w p 1 _) _, ?_⟩
      rw [World.cell?_setCell_other _ _ ⟨b, off + k, none⟩ _ (fun e => hbp (by simpa using (congrArg Addr.block e).symm))]
      exact hcell
    have hT : TapeIn W wt p (some ⟨b, off, none⟩) cap xs (k + 1) := by
      have h1 := (H.out.drewN nq).next hlt
      rw [show ((k + 1 : Nat) : Int) = (k : Int) + 1 from by omega, hwt] at h1
      exact h1
    rw [hwt]
    have hgt' := Lib.hid hgt
    have hT' := Lib.hid hT
    clear hwt hgt hn c0 c1 fz hcell
    have e0 := hT.c0
    have e1 : wt.cell? ⟨p, 1, none⟩ = some (.int .i64 ((k : Int) + 1)) := by have := hT.c1; rw [show ((k + 1 : Nat) : Int) = (k : Int) + 1 from by omega] at this; exact this
    clear hT
    have hM := Lib.hid (show 0 ≤ X % n ∧ X % n < n from ⟨Int.emod_nonneg _ (by omega), Int.emod_lt_of_pos _ (by omega)⟩)
    go_quiet ((go_at_call 24; exact Calls.quiet_of_same (mod_q X n _ (by omega) h1 x0 x1)))
    go_wp2_with fail
    go_ret
    exact ⟨_, k + 1, rfl, hM.out, hT'.out.drewN _, grown_drewN hgt'.out _⟩
  · obtain rfl : k = xs.length := by omega
    have H := Lib.hid h
    clear h
    have d1 : decide ((xs.length : Int) ≥ xs.length) = true := by simp
    have d2 : decide ((xs.length : Int) ≤ xs.length) = true := by simp
    go_enter Try.func9, Try.ntmps9
    go_wp2_with fail
    go_quiet (fail)
    go_wp2_with fail
    go_ret
    exact ⟨0, xs.length, rfl, by omega, H.out.drewN _, grown_drewN (World.grownBy.refl w _) _⟩
end Go.Proofs.Ytibmoibhbgbfoaa
