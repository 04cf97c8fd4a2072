/- The tape's few weights near 1 / n as a contract: some list of numbers of 64 bits in new memory; lists and numbers of 64 bits that came in. -/
import Derived.Test.YtjmdpebocchdhaaDoorFBits
import Derived.Test.YtjmdpebocchdhaaDoorFQuantPlain
import Derived.Test.YtjmdpebocchdhaaDoorList
namespace Go.Proofs.YtjmdpebocchdhaaDoor
open Go.ChangeShapes Go.WideShapes Go.ChangeAt Go.RowKit
set_option linter.unusedVariables false
set_option linter.unusedSimpArgs false

/-- some list came back, in a block that is none of the old ones -/
def ThirdPost (W : World) (p : Nat) (a : Option Addr) (cap : Nat) (xs : List Int) (w : World) (e : Ending) (w' : World) : Prop :=
  ∃ (L : List Int) (g c : Nat), e = .returned (.slice (some ⟨g, 0, none⟩) L.length c) ∧ (1 ≤ L.length ∧ L.length ≤ 3) ∧ FitsU L ∧ SliceU w' (some ⟨g, 0, none⟩) L ∧ (w.heap.size ≤ g ∧ g < w'.heap.size) ∧ TapeSome W w' p a cap xs ∧ w.grownBy w' (some p)
theorem third_lit {W : World} {p : Nat} {a : Option Addr} {cap : Nat} {xs : List Int} {w w1 : World} {t : TypeId} (L : List Int) (c : Nat) (cs : Array Value) (h1 : 1 ≤ L.length ∧ L.length ≤ 3) (hf : FitsU L) (hc : ∀ j, j < L.length → cs[j]? = some (.int .u64 (L.getD j 0))) (hT : TapeSome W w1 p a cap xs) (hg : w.grownBy w1 (some p)) :
    ThirdPost W p a cap xs w (.returned (.slice (some ⟨w1.heap.size, 0, none⟩) L.length c)) (w1.alloc (.cells cs t)) := by
  refine ⟨L, w1.heap.size, c, rfl, h1, hf, fun k hk => ⟨_, _, rfl, ?_⟩, ⟨hg.size, by simp⟩, ⟨hT.choose, hT.choose_spec.more (balloc (bref _) _)⟩, galloc hg _⟩
  rw [Nat.zero_add, World.cell?_alloc_new]; exact hc k hk
set_option maxHeartbeats 2000000 in
theorem third_some (W : World) (p : Nat) (a : Option Addr) (cap : Nat) (xs : List Int) (w : World) (h : TapeSome W w p a cap xs) :
    Calls Tryd.prog 22 #[.pointer (some ⟨p, 0, none⟩)] w (ThirdPost W p a cap xs w) := by
  have hT0 := Lib.hid h
  clear h
  go_enter Tryd.func22, Tryd.ntmps22
  go_wp2_with fail
  refine (next_some W p a cap xs _ _ hT0.out (by omega) (by omega)).mono ?_; rintro e w1 ⟨m1, rfl, hm1, hT1, hg1⟩
  replace hT1 := Lib.hid hT1
  have hG1 := Lib.hid hg1
  clear hT0 hg1
  go_wp2_with fail
  · go_ret
    exact third_lit [4599676419421066581, 4599676419421066581, 4599676419421066581] 3 _ (by simp) (by intro k hk; simp at hk; rcases (show k = 0 ∨ k = 1 ∨ k = 2 by omega) with rfl | rfl | rfl <;> simp [In64u]) (by intro j hj; simp at hj; rcases (show j = 0 ∨ j = 1 ∨ j = 2 by omega) with rfl | rfl | rfl <;> rfl) hT1.out hG1.out
  · go_ret
    exact third_lit [4602678819172646912, 4602678819172646912] 2 _ (by simp) (by intro k hk; simp at hk; rcases (show k = 0 ∨ k = 1 by omega) with rfl | rfl <;> simp [In64u]) (by intro j hj; simp at hj; rcases (show j = 0 ∨ j = 1 by omega) with rfl | rfl <;> rfl) hT1.out hG1.out
  · go_ret
    exact third_lit [13812540057145311232, 4607745368753438720, 13812540057145311232] 3 _ (by simp) (by intro k hk; simp at hk; rcases (show k = 0 ∨ k = 1 ∨ k = 2 by omega) with rfl | rfl | rfl <;> simp [In64u]) (by intro j hj; simp at hj; rcases (show j = 0 ∨ j = 1 ∨ j = 2 by omega) with rfl | rfl | rfl <;> rfl) hT1.out hG1.out
  · refine (bits_some W p a cap xs _ hT1.out).mono ?_; rintro e w2 ⟨x, rfl, hx, hT2, hg2⟩
    replace hT2 := Lib.hid hT2
    have hG2 := Lib.hid (gthen hG1.out hg2)
    have HX := Lib.hid hx
    clear hg2 hx hT1 hG1
    go_wp2_with fail
    refine (bits_some W p a cap xs _ hT2.out).mono ?_; rintro e w3 ⟨y, rfl, hy, hT3, hg3⟩
    replace hT3 := Lib.hid hT3
    have hG3 := Lib.hid (gthen hG2.out hg3)
    have HY := Lib.hid hy
    clear hg3 hy hT2 hG2
    go_wp2_with fail
    go_ret
    exact third_lit [x, y] 2 _ (by simp) (by intro k hk; simp at hk; rcases (show k = 0 ∨ k = 1 by omega) with rfl | rfl; exact HX.out; exact HY.out) (by intro j hj; simp at hj; rcases (show j = 0 ∨ j = 1 by omega) with rfl | rfl <;> rfl) hT3.out hG3.out
end Go.Proofs.YtjmdpebocchdhaaDoor
