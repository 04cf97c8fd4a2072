/- The tape's small weights as a contract: a list of the asked length, each number from -20 to 20, in new memory. -/
import Derived.Test.YtibmoibhbgbfoaaOwn
import Derived.Test.YtibmoibhbgbfoaaPickLit
import Derived.Test.YtibmoibhbgbfoaaAgg
namespace Go.Proofs.Ytibmoibhbgbfoaa
open Go.ChangeShapes Go.WideShapes Go.ChangeAt Go.RowKit
set_option linter.unusedVariables false
set_option linter.unusedSimpArgs false

/-- small weights -/
def Small (L : List Int) : Prop := ∀ v ∈ L, -20 ≤ v ∧ v ≤ 20
theorem small_at {L : List Int} (h : Small L) {k : Nat} (hk : k < L.length) : -20 ≤ L.getD k 0 ∧ L.getD k 0 ≤ 20 := by
  rw [List.getD_eq_getElem?_getD, List.getElem?_eq_getElem hk]; exact h _ (List.getElem_mem _)
theorem small_more {L : List Int} {m : Int} (h : Small L) (hm : -20 ≤ m ∧ m ≤ 20) : Small (L ++ [m]) := by
  intro v hv
  rcases List.mem_append.1 hv with h1 | h1
  · exact h v h1
  · rw [List.mem_singleton] at h1; subst h1; exact hm
/-- where the making of weights stands -/
def WtIn (W : World) (p : Nat) (a : Option Addr) (cap : Nat) (xs : List Int) (w : World) (v : Value) (L : List Int) (wr : World) : Prop :=
  TapeSome W wr p a cap xs ∧ w.grownBy wr (some p) ∧ OwnL w.heap.size wr v L ∧ Small L
theorem own_far {base : Nat} {w w' : World} {v : Value} {L : List Int} {p : Nat} (h : OwnL base w v L) (hg : w.grownBy w' (some p)) (hp : p < base) : OwnL base w' v L := by
  refine World.ownsRow.kept h hg ?_
  cases e : v.ownBlock with
  | none => exact .inl rfl
  | some g => exact .inr (by have := (h.lt e).1; simp; omega)
theorem WtIn.call {W : World} {p : Nat} {a : Option Addr} {cap : Nat} {xs : List Int} {w : World} {v : Value} {L : List Int} {wr w' : World} (h : WtIn W p a cap xs w v L wr) (hp : p < w.heap.size) (hT : TapeSome W w' p a cap xs) (hg : wr.grownBy w' (some p)) : WtIn W p a cap xs w v L w' :=
  ⟨hT, gthen h.2.1 hg, own_far h.2.2.1 hg hp, h.2.2.2⟩
theorem WtIn.alloc {W : World} {p : Nat} {a : Option Addr} {cap : Nat} {xs : List Int} {w : World} {v : Value} {L : List Int} {wr : World} (h : WtIn W p a cap xs w v L wr) (o : Obj) : WtIn W p a cap xs w v L (wr.alloc o) :=
  ⟨⟨h.1.choose, h.1.choose_spec.more (balloc (bref _) _)⟩, galloc h.2.1 _, h.2.2.1.below (balloc (bref _) _), h.2.2.2⟩
theorem WtIn.app {W : World} {p : Nat} {a : Option Addr} {cap : Nat} {xs : List Int} {w : World} {v v' : Value} {L : List Int} {wr w' : World} {m : Int} (h : WtIn W p a cap xs w v L wr) (hp : p < w.heap.size) (hW : W.heap.size ≤ w.heap.size) (hm : -20 ≤ m ∧ m ≤ 20)
    (ho : w'.ownsRow w.heap.size 3 1 v' (L.length + 1) (ints L ++ [.int .i64 m])) (hg : wr.grownBy w' v.ownBlock) : WtIn W p a cap xs w v' (L ++ [m]) w' := by
  obtain ⟨⟨k, hk⟩, h2, h3, h4⟩ := h
  have hfar : ∀ q, v.ownBlock = some q → w.heap.size ≤ q := fun q e => (h3.lt e).1
  refine ⟨⟨k, hk.keep hg (fun q e => ⟨by have := hfar q e; omega, by have := hfar q e; omega⟩)⟩, ?_, OwnL.more ho, small_more h4 hm⟩
  refine ⟨hg.os.trans h2.os, hg.tape.trans h2.tape, hg.output.trans h2.output, Nat.le_trans h2.size hg.size, fun i hi hne => ?_⟩
  rw [hg.block i (Nat.lt_of_lt_of_le hi h2.size) (fun e => by have := hfar i e.symm; omega)]
  exact h2.block i hi hne
/-- weights came back -/
def WtPost (W : World) (p : Nat) (a : Option Addr) (cap : Nat) (xs : List Int) (n : Int) (w : World) (e : Ending) (w' : World) : Prop :=
  ∃ (v : Value) (L : List Int), e = .returned v ∧ (L.length : Int) = max n 0 ∧ WtIn W p a cap xs w v L w'
set_option maxHeartbeats 2000000 in
theorem weights_some (W : World) (p : Nat) (a : Option Addr) (cap : Nat) (xs : List Int) (n : Int) (w : World) (h : TapeSome W w p a cap xs) (hW : W.heap.size ≤ w.heap.size) (hn : n ≤ 100000) :
    Calls Try.prog 10 #[.pointer (some ⟨p, 0, none⟩), .int .i64 n] w (WtPost W p a cap xs n w) := by
  have hp : p < w.heap.size := h.choose_spec.lt
  have H0 : Hid (WtIn W p a cap xs w (.slice none 0 0) [] w) := Lib.hid ⟨h, gref w _, OwnL.nil _ _, fun v hv => by simp at hv⟩
  obtain ⟨i0, hi, hi0, hi1, hi2⟩ := info_parts infoI
  have hi' := Lib.hid hi
  have hi0' := Lib.hid hi0
  have hi1' := Lib.hid hi1
  have hi2' := Lib.hid hi2
  clear h hi hi0 hi1 hi2
  go_enter Try.func10, Try.ntmps10
  go_wp2_with fail
  go_loopw [5, 6] (fun v i wr => ∃ (k : Nat) (L : List Int), (k : Int) ≤ max n 0 ∧ i = .int .i64 k ∧ L.length = k ∧ Hid (WtIn W p a cap xs w v L wr)) (fun _ i _ => (n - intOf i).toNat)
  case atStart => exact ⟨0, [], by omega, rfl, rfl, H0⟩
  case round =>
    clear H0
    obtain ⟨k, L, hk, rfl, rfl, HI⟩ := hrel
    by_cases hlt : (L.length : Int) < n
    · go_wp2_with fail
      refine (next_some W p a cap xs _ _ HI.out.1 (by omega) (by omega)).mono ?_; rintro e w1 ⟨m1, rfl, hm1, hT1, hg1⟩
      have HI1 := Lib.hid (HI.out.call hp hT1 hg1)
      clear hT1 hg1 HI
      go_wp2_with fail
      refine (pick_litm (ys := [1, 2, -1, 0, m1 - 20, 5]) W p a cap xs _ _ _ _ HI1.out.1 (by simp) (by simp) (by intro j hj; simp at hj; rcases (show j = 0 ∨ j = 1 ∨ j = 2 ∨ j = 3 ∨ j = 4 ∨ j = 5 by omega) with rfl | rfl | rfl | rfl | rfl | rfl <;> rfl)).mono ?_; rintro e w2 ⟨m2, rfl, hm2, hT2, hg2⟩
      have HI2 := Lib.hid (HI1.out.call hp hT2 hg2)
      have bm : -20 ≤ m2 ∧ m2 ≤ 20 := by simp at hm2; omega
      clear hT2 hg2 HI1 hm2
      have hz := HI2.out.2.1.size
      have hLn : L.length ≤ 100000 := by omega
      go_wp2_with (at_builtin; refine wpList_append_lies _ rfl _ _ _ rfl w.heap.size 3 i0 (.int .i64 0) 1 8 Try.underlying22 hi'.out hi0'.out hi1'.out hi2'.out rfl (by decide) u5 L.length (ints L) rfl ((HI2.out.alloc _).2.2.1) ⟨w2.heap.size, 0, none⟩ 1 1 [.int .i64 m2] rfl rfl (World.news_of_block (heap_alloc_new w2 _)) (by intro u hu; simp at hu; subst hu; rfl) (by decide) (by unfold maxLen; omega) (by omega) (by simp; omega) (w2.heap.size + 1) (by simp) ?_; intro g gc wB hown hgrow hat hlB)
      have HF := Lib.hid ((HI2.out.alloc _).app hp hW bm hown hgrow)
      go_roundw
      case rel => exact ⟨L.length + 1, L ++ [m2], by omega, by go_num, by simp, HF⟩
      case measure => simp [intOf]; omega
    · go_wp2_with fail
      go_ret
      exact ⟨_, L, rfl, by omega, HI.out⟩
end Go.Proofs.Ytibmoibhbgbfoaa
