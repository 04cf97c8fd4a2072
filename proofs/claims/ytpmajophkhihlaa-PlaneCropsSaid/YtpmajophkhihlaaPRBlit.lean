/- The contract of the reference's Blit. -/
import Derived.Test.YtpmajophkhihlaaPBlitPlain
import Derived.Test.YtpmajophkhihlaaPRCropB
namespace Go.Proofs.Ytpmajophkhihlaa
open Go.ChangeShapes Go.WideShapes Go.ChangeAt Go.RowKit
set_option linter.unusedVariables false
set_option linter.unusedSimpArgs false

/-- two planes in two blocks; only new blocks have come -/
abbrev PPS (w : World) (i j : Nat) (W H M : Int) (sl : Value) (W2 H2 M2 : Int) (sl2 : Value) (w' : World) : Prop :=
  Hid (Below w.heap.size w w') ∧ w'.cell? ⟨i, 0, none⟩ = some (.int .i64 W) ∧ w'.cell? ⟨i, 1, none⟩ = some (.int .i64 H) ∧ w'.cell? ⟨i, 2, none⟩ = some (.int .i64 M) ∧ w'.cell? ⟨i, 3, none⟩ = some sl ∧
    w'.cell? ⟨j, 0, none⟩ = some (.int .i64 W2) ∧ w'.cell? ⟨j, 1, none⟩ = some (.int .i64 H2) ∧ w'.cell? ⟨j, 2, none⟩ = some (.int .i64 M2) ∧ w'.cell? ⟨j, 3, none⟩ = some sl2
theorem pps_keep {w : World} {i j : Nat} {W H M : Int} {sl : Value} {W2 H2 M2 : Int} {sl2 : Value} {w1 w2 : World} (hb : Below w1.heap.size w1 w2) (h : PPS w i j W H M sl W2 H2 M2 sl2 w1) : PPS w i j W H M sl W2 H2 M2 sl2 w2 := by
  obtain ⟨h0, h1, h2, h3, h4, h5, h6, h7, h8⟩ := h
  exact ⟨Lib.hid (bthen h0.out hb), bkeep hb h1, bkeep hb h2, bkeep hb h3, bkeep hb h4, bkeep hb h5, bkeep hb h6, bkeep hb h7, bkeep hb h8⟩
theorem pps_start (w : World) (W H M : Int) (sl : Value) (W2 H2 M2 : Int) (sl2 : Value) (t t' : TypeId) (o : Obj) :
    PPS (((w.alloc (.cells #[.int .i64 W, .int .i64 H, .int .i64 M, sl] t)).alloc (.cells #[.int .i64 W2, .int .i64 H2, .int .i64 M2, sl2] t')).alloc o) w.heap.size (w.heap.size + 1) W H M sl W2 H2 M2 sl2
      (((w.alloc (.cells #[.int .i64 W, .int .i64 H, .int .i64 M, sl] t)).alloc (.cells #[.int .i64 W2, .int .i64 H2, .int .i64 M2, sl2] t')).alloc o) :=
  ⟨Lib.hid (bref _), by go_cell, by go_cell, by go_cell, by go_cell, by go_cell, by go_cell, by go_cell, by go_cell⟩
section
variable (W H M : Int) (L : List Int) (a : Option Addr) (cap : Nat) (W2 H2 M2 : Int) (K : List Int) (a2 : Option Addr) (cap2 : Nat) (x y : Int) (w : World)
set_option maxHeartbeats 1000000 in
theorem rblit_1 (hs : SliceIs w a L) (hl : L.length ≤ 9223372036854775807) (hv : planeB W H M L = false) :
    Calls Try.prog 30 #[.agg #[.int .i64 W, .int .i64 H, .int .i64 M, .slice a L.length cap], .agg #[.int .i64 W2, .int .i64 H2, .int .i64 M2, .slice a2 K.length cap2], .int .i64 x, .int .i64 y] w (PlanePost W H M (blitO W H M L W2 H2 M2 K x y) w) := by
  have hv' := Lib.hid hv
  have hO := Lib.hid (blit_none (W2 := W2) (H2 := H2) (M2 := M2) (K := K) (x := x) (y := y) (.inl hv))
  have hs' := Lib.hid hs
  clear hv hs
  go_enter Try.func30, Try.ntmps30
  go_wp2_with fail
  refine (rpvalid_is hv'.out _ _ _ (is_below hs'.out (balloc (balloc (balloc (bref w) _) _) _)) hl).mono ?_; rintro e w1 ⟨rfl, hb⟩
  obtain ⟨hc, hf⟩ := bcell hb
  obtain ⟨z0, z1, z2, _⟩ := sz3 hb
  have hOp : Open4 w1 (w.heap.size + 1 + 1) := Open4.below (open3n w _ _ _ _ _ _ _) hb
  go_wp2_with fail
  rw [hO.out]
  refine ret_plane2 Try.results30 rfl rfl rfl hOp ⟨bput4 (bthen (balloc (balloc (balloc (bref w) _) _) _) hb) (by omega) _ _ _ _, rfl⟩
set_option maxHeartbeats 1000000 in
theorem rblit_2 (hs : SliceIs w a L) (hl : L.length ≤ 9223372036854775807) (hs2 : SliceIs w a2 K) (hl2 : K.length ≤ 9223372036854775807) (hv : planeB W H M L = true) (hv2 : planeB W2 H2 M2 K = false) :
    Calls Try.prog 30 #[.agg #[.int .i64 W, .int .i64 H, .int .i64 M, .slice a L.length cap], .agg #[.int .i64 W2, .int .i64 H2, .int .i64 M2, .slice a2 K.length cap2], .int .i64 x, .int .i64 y] w (PlanePost W H M (blitO W H M L W2 H2 M2 K x y) w) := by
  have hv' := Lib.hid hv
  have hv2' := Lib.hid hv2
  have hO := Lib.hid (blit_none (W := W) (H := H) (M := M) (L := L) (x := x) (y := y) (.inr (.inl hv2)))
  have hs' := Lib.hid hs
  have hs2' := Lib.hid hs2
  clear hv hs hv2 hs2
  go_enter Try.func30, Try.ntmps30
  go_wp2_with fail
  refine (rpvalid_is hv'.out _ _ _ (is_below hs'.out (balloc (balloc (balloc (bref w) _) _) _)) hl).mono ?_; rintro e w1 ⟨rfl, hb⟩
  obtain ⟨hc, hf⟩ := bcell hb
  obtain ⟨z0, z1, z2, _⟩ := sz3 hb
  have hOp := Lib.hid (Open4.below (open3n w _ _ _ _ _ _ _) hb)
  have hb' := Lib.hid (bthen (balloc (balloc (balloc (bref w) _) _) _) hb)
  go_wp2_with fail
  refine (rpvalid_is hv2'.out _ _ _ (is_below hs2'.out hb'.out) hl2).mono ?_; rintro e w2 ⟨rfl, hb2⟩
  obtain ⟨hc2, hf2⟩ := bcell hb2
  have y2 := bmore hb2 z2
  go_wp2_with fail
  rw [hO.out]
  refine ret_plane2 Try.results30 rfl rfl rfl (hOp.out.below hb2) ⟨bput4 (bthen hb'.out hb2) (by omega) _ _ _ _, rfl⟩
end
end Go.Proofs.Ytpmajophkhihlaa
