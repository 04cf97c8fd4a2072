/- The tape's planes and edges: Sized for ints, Plane, Edge. -/
import Derived.Test.YtpmajophkhihlaaPSized
namespace Go.Proofs.Ytpmajophkhihlaa
open Go.ChangeShapes Go.WideShapes Go.ChangeAt Go.RowKit
set_option linter.unusedVariables false
set_option linter.unusedSimpArgs false

/-- a plane of a size came back: valid, its pixels the whole of a new block; beside new blocks the tape's alone has changed -/
def PlaneOf (W : World) (p : Nat) (a : Option Addr) (cap : Nat) (xs : List Int) (c h : Int) (w : World) (e : Ending) (w' : World) : Prop :=
  ∃ (m : Int) (g : Nat) (L : List Int), e = .returned (.agg #[.int .i64 c, .int .i64 h, .int .i64 m, .slice (some ⟨g, 0, none⟩) L.length L.length]) ∧ planeB c h m L = true ∧ m ≤ 65535 ∧ PixAt w.heap.size w' g L.length L ∧ TapeSome W w' p a cap xs ∧ w.grownBy w' (some p)
theorem sized_int (W : World) (p : Nat) (a : Option Addr) (cap : Nat) (xs : List Int) (c h : Int) (w : World) (hT : TapeSome W w p a cap xs) (c1 : 1 ≤ c) (c2 : c ≤ 64) (d1 : 1 ≤ h) (d2 : h ≤ 64) :
    Calls Try.prog 9 #[.pointer (some ⟨p, 0, none⟩), .int .i64 c, .int .i64 h] w (PlaneOf W p a cap xs c h w) := by
  obtain ⟨cw, rfl⟩ : ∃ cw : Nat, c = cw := ⟨c.toNat, by omega⟩
  obtain ⟨ch, rfl⟩ : ∃ ch : Nat, h = ch := ⟨h.toNat, by omega⟩
  exact sized_any W p a cap xs cw ch w hT (by omega) (by omega) (by omega) (by omega)
/-- some small valid plane came back -/
def SomePlane (W : World) (p : Nat) (a : Option Addr) (cap : Nat) (xs : List Int) (w : World) (e : Ending) (w' : World) : Prop := ∃ c h : Int, (1 ≤ c ∧ c ≤ 6) ∧ (1 ≤ h ∧ h ≤ 5) ∧ PlaneOf W p a cap xs c h w e w'
set_option maxHeartbeats 1000000 in
theorem plane_any (W : World) (p : Nat) (a : Option Addr) (cap : Nat) (xs : List Int) (w : World) (hT : TapeSome W w p a cap xs) :
    Calls Try.prog 19 #[.pointer (some ⟨p, 0, none⟩)] w (SomePlane W p a cap xs w) := by
  have hT0 := Lib.hid (hT.alloc (.cells #[.int .i64 0, .int .i64 0, .int .i64 0, .slice none 0 0] 26))
  have hlt := hT.lt
  clear hT
  go_enter Try.func19, Try.ntmps19
  go_wp2_with fail
  refine (next_some W p a cap xs _ _ hT0.out (by omega) (by omega)).mono ?_; rintro e w1 ⟨x, rfl, ⟨x0, x1⟩, hT1, hg1⟩
  replace hT1 := Lib.hid hT1
  replace hg1 := Lib.hid hg1
  go_wp2_with fail
  refine (next_some W p a cap xs _ _ hT1.out (by omega) (by omega)).mono ?_; rintro e w2 ⟨y, rfl, ⟨y0, y1⟩, hT2, hg2⟩
  replace hT2 := Lib.hid hT2
  replace hg2 := Lib.hid hg2
  go_wp2_with fail
  refine (sized_int W p a cap xs _ _ _ hT2.out (by omega) (by omega) (by omega) (by omega)).mono ?_; rintro e w3 ⟨m, g, L, rfl, hv, hm, hP, hT3, hg3⟩
  have hG := Lib.hid (show w.grownBy w3 (some p) from gthen (gthen (gthen (galloc (gref w _) _) hg1.out) hg2.out) hg3)
  have n0 : some w.heap.size ≠ some p := by simp; omega
  have hO := Lib.hid (((Open4.new w (.int .i64 0) (.int .i64 0) (.int .i64 0) (.slice none 0 0) 26).grown hg1.out n0).grown hg2.out n0 |>.grown hg3 n0)
  have hv' := Lib.hid hv
  have hP' := Lib.hid hP
  have hT3' := Lib.hid hT3
  have hwl : w.heap.size < w2.heap.size := by have h1 := hg1.out.size; have h2 := hg2.out.size; simp at h1; omega
  clear hg3 hv hP hT3
  obtain ⟨⟨v0, o0, f0⟩, ⟨v1, o1, f1⟩, ⟨v2, o2, f2⟩, ⟨v3, o3, f3⟩⟩ := open_cells hO.out
  go_wp2_with fail
  have hgl := hP'.out.lt
  refine ret_plane Try.results19 rfl rfl hO.out ⟨1 + x, 1 + y, by omega, by omega, m, g, L, rfl, hv'.out, hm, ?_, hT3'.out.put (by omega) (by omega) _ _ _ _, gput4 hG.out (.inl (Nat.le_refl _)) _ _ _ _⟩
  exact (hP'.out.base (by omega)).grown (gput4 (gref w3 (some w.heap.size)) (.inr rfl) _ _ _ _) (by simp; omega)
end Go.Proofs.Ytpmajophkhihlaa
