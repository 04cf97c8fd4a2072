/- The tape's further choices: New and Pick as contracts. -/
import Derived.Test.YtibmoibhbgbfoaaTape
import Derived.Deep.DeepCutAuto
import Derived.Deep.AppendLies
import Derived.Deep.RegionHeld3
namespace Go.Proofs.Ytibmoibhbgbfoaa
open Go.ChangeShapes Go.WideShapes Go.ChangeAt Go.RowKit
set_option linter.unusedVariables false
set_option linter.unusedSimpArgs false

theorem gcell {w w' : World} {p : Nat} (hg : w.grownBy w' (some p)) : (∀ b o, b < w.heap.size → ¬ b = p → w'.cell? ⟨b, o, none⟩ = w.cell? ⟨b, o, none⟩) ∧ (∀ b o, b < w.heap.size → ¬ b = p → w'.frozen? ⟨b, o, none⟩ = w.frozen? ⟨b, o, none⟩) :=
  ⟨fun b o h hne => hg.cell_far ⟨b, o, none⟩ h (by simpa using hne), fun b o h hne => hg.frozen_far ⟨b, o, none⟩ h (by simpa using hne)⟩
theorem new_any (a : Option Addr) (cap : Nat) (xs : List Int) (W : World) (hs : SliceIs W a xs) (hf : Fits xs) (hl : xs.length ≤ 9223372036854775807) :
    Calls Try.prog 8 #[.slice a xs.length cap] W fun e w' => e = .returned (.pointer (some ⟨W.heap.size, 0, none⟩)) ∧ TapeIn W w' W.heap.size a cap xs 0 := by
  have H : TapeIn W (W.alloc (.cells #[.slice a xs.length cap, .int .i64 0] 54)) W.heap.size a cap xs 0 :=
    ⟨balloc (bref W) _, Nat.le_refl _, hs, hf, hl, by simp [World.cell?_alloc_new], by simp [World.cell?_alloc_new], by simp, Nat.zero_le _⟩
  have H' := Lib.hid H
  clear H hs hf
  go_enter Try.func8, Try.ntmps8
  go_wp2_with fail
  go_ret
  exact ⟨rfl, H'.out⟩
/-- one of some numbers came back, and beside new blocks the tape's alone has changed -/
def PickPost (W : World) (p : Nat) (a : Option Addr) (cap : Nat) (xs : List Int) (ys : List Int) (w : World) (e : Ending) (w' : World) : Prop :=
  ∃ (m : Int) (k : Nat), e = .returned (.int .i64 m) ∧ m ∈ ys ∧ TapeIn W w' p a cap xs k ∧ w.grownBy w' (some p)
theorem pick_any (W : World) (p : Nat) (a : Option Addr) (cap : Nat) (xs : List Int) (k : Nat) (s : Nat) (c : Nat) (ys : List Int) (w : World) (h : TapeIn W w p a cap xs k) (hsp : ¬ s = p) (h1 : 1 ≤ ys.length) (h2 : ys.length ≤ 9223372036854775807)
    (hy : ∀ j, j < ys.length → w.cell? ⟨s, j, none⟩ = some (.int .i64 (ys.getD j 0))) :
    Calls Try.prog 11 #[.pointer (some ⟨p, 0, none⟩), .slice (some ⟨s, 0, none⟩) ys.length c] w (PickPost W p a cap xs ys w) := by
  have H := Lib.hid h
  have hy' := Lib.hid hy
  have hs0 : s < w.heap.size := World.block_lt_of_cell? _ _ (hy 0 h1)
  clear h hy
  go_enter Try.func11, Try.ntmps11
  go_wp2_with fail
  refine (next_any W p a cap xs k _ _ H.out (by omega) (by omega)).mono ?_; rintro e w1 ⟨m, k', rfl, ⟨m0, m1⟩, hT, hg⟩
  have hT' := Lib.hid hT
  have hg' := Lib.hid hg
  obtain ⟨j, rfl⟩ : ∃ j : Nat, m = j := ⟨m.toNat, by omega⟩
  have hj : j < ys.length := by omega
  have hcell : w1.cell? ⟨s, j, none⟩ = some (.int .i64 (ys.getD j 0)) := by rw [(gcell hg).1 s j hs0 hsp]; exact hy'.out j hj
  clear hT hg
  obtain ⟨X, eX⟩ : ∃ X, ys.getD j 0 = X := ⟨_, rfl⟩
  have hm := Lib.hid (show X ∈ ys from by rw [← eX, List.getD_eq_getElem?_getD, List.getElem?_eq_getElem hj]; exact List.getElem_mem hj)
  rw [eX] at hcell
  clear eX
  go_wp2_with fail
  go_ret
  exact ⟨X, k', rfl, hm.out, hT'.out, hg'.out⟩
end Go.Proofs.Ytibmoibhbgbfoaa
