/- The contract of the reference's Crop. -/
import Derived.Test.YtpmajophkhihlaaPCropPlain
import Derived.Test.YtpmajophkhihlaaPCopy
import Derived.Test.YtpmajophkhihlaaPAt
import Derived.Test.YtpmajophkhihlaaRPair
import Derived.Deep.RegionHeld3
import Derived.BigRegion
import Derived.Deep.DeepCutAuto
namespace Go.Proofs.Ytpmajophkhihlaa
open Go.ChangeShapes Go.WideShapes Go.ChangeAt Go.RowKit
set_option linter.unusedVariables false
set_option linter.unusedSimpArgs false

theorem rcover_any (W H M : Int) (s : Value) (w : World) : Calls Try.prog 50 #[.agg #[.int .i64 W, .int .i64 H, .int .i64 M, s]] w fun e w' => e = .returned (.agg #[.int .i64 0, .int .i64 0, .int .i64 W, .int .i64 H]) ∧ Below w.heap.size w w' := by
  go_enter Try.func50, Try.ntmps50
  go_wp2_with fail
  go_returns
  exact ⟨rfl, by go_grown⟩
theorem rempty_is {a b c d : Int} {v : Bool} (h : emptyB a b c d = v) (w : World) : Calls Try.prog 48 #[.agg #[.int .i64 a, .int .i64 b, .int .i64 c, .int .i64 d]] w (TestPost v w) := h ▸ rempty_any a b c d w
theorem rinside_is {a b c d e f g h : Int} {v : Bool} (hh : insideB a b c d e f g h = v) (w : World) : Calls Try.prog 49 #[.agg #[.int .i64 a, .int .i64 b, .int .i64 c, .int .i64 d], .agg #[.int .i64 e, .int .i64 f, .int .i64 g, .int .i64 h]] w (TestPost v w) := hh ▸ rinside_any a b c d e f g h w
/-- a plane and a rectangle in two blocks; only new blocks have come -/
abbrev PRS (w : World) (i j : Nat) (W H M : Int) (sl : Value) (x0 y0 x1 y1 : Int) (w' : World) : Prop :=
  Hid (Below w.heap.size w w') ∧ w'.cell? ⟨i, 0, none⟩ = some (.int .i64 W) ∧ w'.cell? ⟨i, 1, none⟩ = some (.int .i64 H) ∧ w'.cell? ⟨i, 2, none⟩ = some (.int .i64 M) ∧ w'.cell? ⟨i, 3, none⟩ = some sl ∧
    w'.cell? ⟨j, 0, none⟩ = some (.int .i64 x0) ∧ w'.cell? ⟨j, 1, none⟩ = some (.int .i64 y0) ∧ w'.cell? ⟨j, 2, none⟩ = some (.int .i64 x1) ∧ w'.cell? ⟨j, 3, none⟩ = some (.int .i64 y1)
theorem prs_keep {w : World} {i j : Nat} {W H M : Int} {sl : Value} {x0 y0 x1 y1 : Int} {w1 w2 : World} (hb : Below w1.heap.size w1 w2) (h : PRS w i j W H M sl x0 y0 x1 y1 w1) : PRS w i j W H M sl x0 y0 x1 y1 w2 := by
  obtain ⟨h0, h1, h2, h3, h4, h5, h6, h7, h8⟩ := h
  exact ⟨Lib.hid (bthen h0.out hb), bkeep hb h1, bkeep hb h2, bkeep hb h3, bkeep hb h4, bkeep hb h5, bkeep hb h6, bkeep hb h7, bkeep hb h8⟩
theorem bdrew1 {B : Nat} {a w : World} (h : Below B a w) : Below B a w.drew := ⟨h.os, h.tape, h.output, h.size, h.block⟩
theorem sz3d {w w1 : World} {o p q : Obj} (h : Below (((w.alloc o).alloc p).alloc q).drew.heap.size (((w.alloc o).alloc p).alloc q).drew w1) : w.heap.size < w1.heap.size ∧ w.heap.size + 1 < w1.heap.size ∧ w.heap.size + 1 + 1 < w1.heap.size := by have := h.size; simp at this; omega
/-- a variable's four cells: what they hold, and that they can be written -/
theorem open_cells {w : World} {p : Nat} (h : Open4 w p) :
    (∃ v, w.cell? ⟨p, 0, none⟩ = some v ∧ w.frozen? ⟨p, 0, none⟩ = false) ∧ (∃ v, w.cell? ⟨p, 1, none⟩ = some v ∧ w.frozen? ⟨p, 1, none⟩ = false) ∧ (∃ v, w.cell? ⟨p, 2, none⟩ = some v ∧ w.frozen? ⟨p, 2, none⟩ = false) ∧ (∃ v, w.cell? ⟨p, 3, none⟩ = some v ∧ w.frozen? ⟨p, 3, none⟩ = false) := by
  obtain ⟨⟨v0, h0⟩, f0⟩ := h 0 (by omega)
  obtain ⟨⟨v1, h1⟩, f1⟩ := h 1 (by omega)
  obtain ⟨⟨v2, h2⟩, f2⟩ := h 2 (by omega)
  obtain ⟨⟨v3, h3⟩, f3⟩ := h 3 (by omega)
  exact ⟨⟨v0, h0, f0⟩, ⟨v1, h1, f1⟩, ⟨v2, h2, f2⟩, ⟨v3, h3, f3⟩⟩
theorem open3n (w : World) (o o' : Obj) (v0 v1 v2 v3 : Value) (t : TypeId) : Open4 (((w.alloc o).alloc o').alloc (.cells #[v0, v1, v2, v3] t)) (w.heap.size + 1 + 1) := by
  have := Open4.new ((w.alloc o).alloc o') v0 v1 v2 v3 t
  simp only [World.size_alloc] at this
  exact this
theorem open3 (w : World) (o o' : Obj) (v0 v1 v2 v3 : Value) (t : TypeId) : Open4 (((w.alloc o).alloc o').alloc (.cells #[v0, v1, v2, v3] t)).drew (w.heap.size + 1 + 1) := by
  have := Open4.new ((w.alloc o).alloc o') v0 v1 v2 v3 t
  simp only [World.size_alloc] at this
  exact this
theorem prs_start (w : World) (W H M : Int) (sl : Value) (x0 y0 x1 y1 : Int) (t t' : TypeId) (o : Obj) : PRS (((w.alloc (.cells #[.int .i64 W, .int .i64 H, .int .i64 M, sl] t)).alloc (.cells #[.int .i64 x0, .int .i64 y0, .int .i64 x1, .int .i64 y1] t')).alloc o) w.heap.size (w.heap.size + 1) W H M sl x0 y0 x1 y1 (((w.alloc (.cells #[.int .i64 W, .int .i64 H, .int .i64 M, sl] t)).alloc (.cells #[.int .i64 x0, .int .i64 y0, .int .i64 x1, .int .i64 y1] t')).alloc o) :=
  ⟨Lib.hid (bref _), by go_cell, by go_cell, by go_cell, by go_cell, by go_cell, by go_cell, by go_cell, by go_cell⟩
theorem crop_none {W H M : Int} {L : List Int} {x0 y0 x1 y1 : Int} (h : planeB W H M L = false ∨ emptyB x0 y0 x1 y1 = true ∨ insideB x0 y0 x1 y1 0 0 W H = false) : cropO W H M L x0 y0 x1 y1 = none := by
  unfold cropO
  rw [if_neg]
  rintro ⟨h1, h2, h3⟩
  rcases h with h | h | h
  · rw [h] at h1; cases h1
  · rw [h] at h2; cases h2
  · rw [h] at h3; cases h3
set_option maxHeartbeats 2000000 in
theorem rcrop_1 (W H M : Int) (L : List Int) (a : Option Addr) (cap : Nat) (x0 y0 x1 y1 : Int) (w : World) (hs : SliceIs w a L) (hl : L.length ≤ 9223372036854775807) (hv : planeB W H M L = false) :
    Calls Try.prog 29 #[.agg #[.int .i64 W, .int .i64 H, .int .i64 M, .slice a L.length cap], .agg #[.int .i64 x0, .int .i64 y0, .int .i64 x1, .int .i64 y1]] w (PlanePost (x1 - x0) (y1 - y0) M (cropO W H M L x0 y0 x1 y1) w) := by
  have hv' := Lib.hid hv
  have hO := Lib.hid (crop_none (x0 := x0) (y0 := y0) (x1 := x1) (y1 := y1) (.inl hv))
  have hs' := Lib.hid hs
  clear hv hs
  go_enter Try.func29, Try.ntmps29
  go_upto_region 1 with fail
  have hsb := Lib.hid (is_below hs'.out (bdrew1 (balloc (balloc (balloc (bref w) (.cells #[.int .i64 W, .int .i64 H, .int .i64 M, .slice a L.length cap] 26)) (.cells #[.int .i64 x0, .int .i64 y0, .int .i64 x1, .int .i64 y1] 31)) (.cells #[.int .i64 0, .int .i64 0, .int .i64 0, .slice none 0 0] 26))))
  go_region_with (go_at_call 16; refine (rpvalid_is hv'.out _ _ _ hsb.out hl).mono ?_; rintro e w1 ⟨rfl, hb⟩; obtain ⟨hc, hf⟩ := bcell hb; obtain ⟨z0, z1, z2⟩ := sz3d hb)
  all_goals
    go_wp2_with fail
    rw [hO.out]
    refine ret_plane2 Try.results29 rfl rfl rfl ((open3 _ _ _ _ _ _ _ _).below hb) ⟨bput4 (bthen (bdrew1 (balloc (balloc (balloc (bref w) _) _) _)) hb) (by omega) _ _ _ _, rfl⟩
set_option maxHeartbeats 2000000 in
theorem rcrop_2 (W H M : Int) (L : List Int) (a : Option Addr) (cap : Nat) (x0 y0 x1 y1 : Int) (w : World) (hs : SliceIs w a L) (hl : L.length ≤ 9223372036854775807) (hv : planeB W H M L = true) (he : emptyB x0 y0 x1 y1 = true) :
    Calls Try.prog 29 #[.agg #[.int .i64 W, .int .i64 H, .int .i64 M, .slice a L.length cap], .agg #[.int .i64 x0, .int .i64 y0, .int .i64 x1, .int .i64 y1]] w (PlanePost (x1 - x0) (y1 - y0) M (cropO W H M L x0 y0 x1 y1) w) := by
  have hv' := Lib.hid hv
  have he' := Lib.hid he
  have hO := Lib.hid (crop_none (W := W) (H := H) (M := M) (L := L) (.inr (.inl he)))
  have hs' := Lib.hid hs
  clear hv hs he
  go_enter Try.func29, Try.ntmps29
  go_upto_region 1 with fail
  have hsb := Lib.hid (is_below hs'.out (bdrew1 (balloc (balloc (balloc (bref w) (.cells #[.int .i64 W, .int .i64 H, .int .i64 M, .slice a L.length cap] 26)) (.cells #[.int .i64 x0, .int .i64 y0, .int .i64 x1, .int .i64 y1] 31)) (.cells #[.int .i64 0, .int .i64 0, .int .i64 0, .slice none 0 0] 26))))
  go_region_with (first
    | (go_at_call 16; refine (rpvalid_is hv'.out _ _ _ hsb.out hl).mono ?_; rintro e w1 ⟨rfl, hb⟩; obtain ⟨hc, hf⟩ := bcell hb; obtain ⟨z0, z1, z2⟩ := sz3d hb)
    | (go_at_call 48; refine (rempty_is he'.out _).mono ?_; rintro e w2 ⟨rfl, hb2⟩; obtain ⟨hc2, hf2⟩ := bcell hb2; have y2 := bmore hb2 z2))
  all_goals
    go_wp2_with fail
    rw [hO.out]
    refine ret_plane2 Try.results29 rfl rfl rfl (((open3 _ _ _ _ _ _ _ _).below hb).below hb2) ⟨bput4 (bthen (bthen (bdrew1 (balloc (balloc (balloc (bref w) _) _) _)) hb) hb2) (by omega) _ _ _ _, rfl⟩
set_option maxHeartbeats 2000000 in
theorem rcrop_3 (W H M : Int) (L : List Int) (a : Option Addr) (cap : Nat) (x0 y0 x1 y1 : Int) (w : World) (hs : SliceIs w a L) (hl : L.length ≤ 9223372036854775807) (hv : planeB W H M L = true) (he : emptyB x0 y0 x1 y1 = false) (hi : insideB x0 y0 x1 y1 0 0 W H = false) :
    Calls Try.prog 29 #[.agg #[.int .i64 W, .int .i64 H, .int .i64 M, .slice a L.length cap], .agg #[.int .i64 x0, .int .i64 y0, .int .i64 x1, .int .i64 y1]] w (PlanePost (x1 - x0) (y1 - y0) M (cropO W H M L x0 y0 x1 y1) w) := by
  have hv' := Lib.hid hv
  have he' := Lib.hid he
  have hi' := Lib.hid hi
  have hO := Lib.hid (crop_none (W := W) (H := H) (M := M) (L := L) (.inr (.inr hi)))
  have hs' := Lib.hid hs
  clear hv hs he hi
  go_enter Try.func29, Try.ntmps29
  go_upto_region 1 with fail
  obtain ⟨W3, eW3⟩ : ∃ W3, ((w.alloc (.cells #[.int .i64 W, .int .i64 H, .int .i64 M, .slice a L.length cap] 26)).alloc (.cells #[.int .i64 x0, .int .i64 y0, .int .i64 x1, .int .i64 y1] 31)).alloc (.cells #[.int .i64 0, .int .i64 0, .int .i64 0, .slice none 0 0] 26) = W3 := ⟨_, rfl⟩
  have hB := balloc (balloc (balloc (bref w) (.cells #[.int .i64 W, .int .i64 H, .int .i64 M, .slice a L.length cap] 26)) (.cells #[.int .i64 x0, .int .i64 y0, .int .i64 x1, .int .i64 y1] 31)) (.cells #[.int .i64 0, .int .i64 0, .int .i64 0, .slice none 0 0] 26)
  have hS0 := prs_start w W H M (.slice a L.length cap) x0 y0 x1 y1 26 31 (.cells #[.int .i64 0, .int .i64 0, .int .i64 0, .slice none 0 0] 26)
  rw [eW3] at hS0
  have hS : PRS W3 w.heap.size (w.heap.size + 1) W H M (.slice a L.length cap) x0 y0 x1 y1 W3.drew := ⟨Lib.hid (bdrew1 hS0.1.out), hS0.2⟩
  have hOp : Open4 W3 (w.heap.size + 1 + 1) := by rw [← eW3]; exact (Open4.new _ _ _ _ _ _).at (by simp)
  have hz3 : W3.heap.size = w.heap.size + 1 + 1 + 1 := by rw [← eW3]; simp
  rw [eW3] at hB
  simp only [eW3]
  have hs3 := Lib.hid (is_below hs'.out hB)
  clear hS0 eW3
  go_region_held3 (fun w' => PRS W3 w.heap.size (w.heap.size + 1) W H M (.slice a L.length cap) x0 y0 x1 y1 w') ((first | exact hS | exact prs_keep hb ‹_›))
    (first
      | (go_at_call 16; refine (rpvalid_is hv'.out _ _ _ (is_below hs3.out (‹PRS W3 w.heap.size (w.heap.size + 1) W H M (.slice a L.length cap) x0 y0 x1 y1 _›).1.out) hl).mono ?_; rintro e w1 ⟨rfl, hb⟩)
      | (go_at_call 48; refine (rempty_is he'.out _).mono ?_; rintro e w1 ⟨rfl, hb⟩)
      | (go_at_call 50; refine (rcover_any _ _ _ _ _).mono ?_; rintro e w1 ⟨rfl, hb⟩)
      | (go_at_call 49; refine (rinside_is hi'.out _).mono ?_; rintro e w1 ⟨rfl, hb⟩))
  all_goals
    have hE := (show PRS W3 w.heap.size (w.heap.size + 1) W H M (.slice a L.length cap) x0 y0 x1 y1 _ from ‹_›).1.out
    have hOp2 := hOp.below hE
    obtain ⟨⟨v0, o0, f0⟩, ⟨v1, o1, f1⟩, ⟨v2, o2, f2⟩, ⟨v3, o3, f3⟩⟩ := open_cells hOp2
    go_wp2_with fail
    rw [hO.out]
    refine ret_plane2 Try.results29 rfl rfl rfl hOp2 ⟨bput4 (bthen hB hE) (by omega) _ _ _ _, rfl⟩
end Go.Proofs.Ytpmajophkhihlaa
