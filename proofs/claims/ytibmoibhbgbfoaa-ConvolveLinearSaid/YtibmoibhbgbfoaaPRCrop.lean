/- The contract of the reference's Crop. The contract of the reference's Crop where a crop is possible: its loops. -/
import Derived.Test.YtibmoibhbgbfoaaPCropPlain
import Derived.Test.YtibmoibhbgbfoaaPPixel
import Derived.Test.YtibmoibhbgbfoaaRPlain
import Derived.Deep.RegionHeld3
import Derived.BigRegion
import Derived.Deep.DeepCutAuto
import Derived.Test.YtibmoibhbgbfoaaWithin
namespace Go.Proofs.Ytibmoibhbgbfoaa
open Go.ChangeShapes Go.WideShapes Go.ChangeAt Go.RowKit
set_option linter.unusedVariables false
set_option linter.unusedSimpArgs false

theorem rcover_any (W H M : Int) (s : Value) (w : World) : Calls Try.prog 47 #[.agg #[.int .i64 W, .int .i64 H, .int .i64 M, s]] w fun e w' => e = .returned (.agg #[.int .i64 0, .int .i64 0, .int .i64 W, .int .i64 H]) ∧ Below w.heap.size w w' := by
  go_enter Try.func47, Try.ntmps47
  go_wp2_with fail
  go_returns
  exact ⟨rfl, by go_grown⟩
theorem rempty_is {a b c d : Int} {v : Bool} (h : emptyB a b c d = v) (w : World) : Calls Try.prog 53 #[.agg #[.int .i64 a, .int .i64 b, .int .i64 c, .int .i64 d]] w (TestPost v w) := h ▸ rempty_any a b c d w
theorem rinside_is {a b c d e f g h : Int} {v : Bool} (hh : insideB a b c d e f g h = v) (w : World) : Calls Try.prog 46 #[.agg #[.int .i64 a, .int .i64 b, .int .i64 c, .int .i64 d], .agg #[.int .i64 e, .int .i64 f, .int .i64 g, .int .i64 h]] w (TestPost v w) := hh ▸ rinside_any a b c d e f g h w
/-- a plane and a rectangle in two blocks; only new blocks have come -/
abbrev PRS (w : World) (i j : Nat) (W H M : Int) (sl : Value) (x0 y0 x1 y1 : Int) (w' : World) : Prop :=
  Hid (Below w.heap.size w w') ∧ w'.cell? ⟨i, 0, none⟩ = some (.int .i64 W) ∧ w'.cell? ⟨i, 1, none⟩ = some (.int .i64 H) ∧ w'.cell? ⟨i, 2, none⟩ = some (.int .i64 M) ∧ w'.cell? ⟨i, 3, none⟩ = some sl ∧
    w'.cell? ⟨j, 0, none⟩ = some (.int .i64 x0) ∧ w'.cell? ⟨j, 1, none⟩ = some (.int .i64 y0) ∧ w'.cell? ⟨j, 2, none⟩ = some (.int .i64 x1) ∧ w'.cell? ⟨j, 3, none⟩ = some (.int .i64 y1)
theorem prs_keep {w : World} {i j : Nat} {W H M : Int} {sl : Value} {x0 y0 x1 y1 : Int} {w1 w2 : World} (hb : Below w1.heap.size w1 w2) (h : PRS w i j W H M sl x0 y0 x1 y1 w1) : PRS w i j W H M sl x0 y0 x1 y1 w2 := by
  obtain ⟨h0, h1, h2, h3, h4, h5, h6, h7, h8⟩ := h
  exact ⟨Lib.hid (bthen h0.out hb), bkeep hb h1, bkeep hb h2, bkeep hb h3, bkeep hb h4, bkeep hb h5, bkeep hb h6, bkeep hb h7, bkeep hb h8⟩
theorem bdrew1 {B : Nat} {a w : World} (h : Below B a w) : Below B a w.drew := ⟨h.os, h.tape, h.output, h.size, h.block⟩
theorem sz3d {w w1 : World} {o p q : Obj} (h : Below (((w.alloc o).alloc p).alloc q).drew.heap.size (((w.alloc o).alloc p).alloc q).drew w1) : w.heap.size < w1.heap.size ∧ w.heap.size + 1 < w1.heap.size ∧ w.heap.size + 1 + 1 < w1.heap.size := by have := h.size; simp at this; omega
/-- a variable's four cells: what they hold, and that they can be written -/
theorem open_cells {w : World} {p : Nat} (h : Open4 w p) :
    (∃ v, w.cell? ⟨p, 0, none⟩ = some v ∧ w.frozen? ⟨p, 0, none⟩ = false) ∧ (∃ v, w.cell? ⟨p, 1, none⟩ = some v ∧ w.frozen? ⟨p, 1, none⟩ = false) ∧ (∃ v, w.cell? ⟨p, 2, none⟩ = some v ∧ w.frozen? ⟨p, 2, none⟩ = false) ∧ (∃ v, w.cell? ⟨p, 3, none⟩ = some v ∧ w.frozen? ⟨p, 3, none⟩ = false) := by
  obtain ⟨⟨v0, h0⟩, f0⟩ := h 0 (by omega)
  obtain ⟨⟨v1, h1⟩, f1⟩ := h 1 (by omega)
  obtain ⟨⟨v2, h2⟩, f2⟩ := h 2 (by omega)
  obtain ⟨⟨v3, h3⟩, f3⟩ := h 3 (by omega)
  exact ⟨⟨v0, h0, f0⟩, ⟨v1, h1, f1⟩, ⟨v2, h2, f2⟩, ⟨v3, h3, f3⟩⟩
theorem open3n (w : World) (o o' : Obj) (v0 v1 v2 v3 : Value) (t : TypeId) : Open4 (((w.alloc o).alloc o').alloc (.cells #[v0, v1, v2, v3] t)) (w.heap.size + 1 + 1) := by
  have := Open4.new ((w.alloc o).alloc o') v0 v1 v2 v3 t
  simp only [World.size_alloc] at this
  exact this
theorem open3 (w : World) (o o' : Obj) (v0 v1 v2 v3 : Value) (t : TypeId) : Open4 (((w.alloc o).alloc o').alloc (.cells #[v0, v1, v2, v3] t)).drew (w.heap.size + 1 + 1) := by
  have := Open4.new ((w.alloc o).alloc o') v0 v1 v2 v3 t
  simp only [World.size_alloc] at this
  exact this
theorem prs_start (w : World) (W H M : Int) (sl : Value) (x0 y0 x1 y1 : Int) (t t' : TypeId) (o : Obj) : PRS (((w.alloc (.cells #[.int .i64 W, .int .i64 H, .int .i64 M, sl] t)).alloc (.cells #[.int .i64 x0, .int .i64 y0, .int .i64 x1, .int .i64 y1] t')).alloc o) w.heap.size (w.heap.size + 1) W H M sl x0 y0 x1 y1 (((w.alloc (.cells #[.int .i64 W, .int .i64 H, .int .i64 M, sl] t)).alloc (.cells #[.int .i64 x0, .int .i64 y0, .int .i64 x1, .int .i64 y1] t')).alloc o) :=
  ⟨Lib.hid (bref _), by go_cell, by go_cell, by go_cell, by go_cell, by go_cell, by go_cell, by go_cell, by go_cell⟩
theorem crop_none {W H M : Int} {L : List Int} {x0 y0 x1 y1 : Int} (h : planeB W H M L = false ∨ emptyB x0 y0 x1 y1 = true ∨ insideB x0 y0 x1 y1 0 0 W H = false) : cropO W H M L x0 y0 x1 y1 = none := by
  unfold cropO
  rw [if_neg]
  rintro ⟨h1, h2, h3⟩
  rcases h with h | h | h
  · rw [h] at h1; cases h1
  · rw [h] at h2; cases h2
  · rw [h] at h3; cases h3
set_option maxHeartbeats 2000000 in
theorem rcrop_1 (W H M : Int) (L : List Int) (a : Option Addr) (cap : Nat) (x0 y0 x1 y1 : Int) (w : World) (hs : SliceIs w a L) (hl : L.length ≤ 9223372036854775807) (hv : planeB W H M L = false) :
    Calls Try.prog 23 #[.agg #[.int .i64 W, .int .i64 H, .int .i64 M, .slice a L.length cap], .agg #[.int .i64 x0, .int .i64 y0, .int .i64 x1, .int .i64 y1]] w (PlanePost (x1 - x0) (y1 - y0) M (cropO W H M L x0 y0 x1 y1) w) := by
  have hv' := Lib.hid hv
  have hO := Lib.hid (crop_none (x0 := x0) (y0 := y0) (x1 := x1) (y1 := y1) (.inl hv))
  have hs' := Lib.hid hs
  clear hv hs
  go_enter Try.func23, Try.ntmps23
  go_upto_region 1 with fail
  have hsb := Lib.hid (is_below hs'.out (bdrew1 (balloc (balloc (balloc (bref w) (.cells #[.int .i64 W, .int .i64 H, .int .i64 M, .slice a L.length cap] 35)) (.cells #[.int .i64 x0, .int .i64 y0, .int .i64 x1, .int .i64 y1] 33)) (.cells #[.int .i64 0, .int .i64 0, .int .i64 0, .slice none 0 0] 35))))
  go_region_with (go_at_call 43; refine (rpvalid_is hv'.out _ _ _ hsb.out hl).mono ?_; rintro e w1 ⟨rfl, hb⟩; obtain ⟨hc, hf⟩ := bcell hb; obtain ⟨z0, z1, z2⟩ := sz3d hb)
  all_goals
    go_wp2_with fail
    rw [hO.out]
    refine ret_plane2 Try.results23 rfl rfl rfl ((open3 _ _ _ _ _ _ _ _).below hb) ⟨bput4 (bthen (bdrew1 (balloc (balloc (balloc (bref w) _) _) _)) hb) (by omega) _ _ _ _, rfl⟩
set_option maxHeartbeats 2000000 in
theorem rcrop_2 (W H M : Int) (L : List Int) (a : Option Addr) (cap : Nat) (x0 y0 x1 y1 : Int) (w : World) (hs : SliceIs w a L) (hl : L.length ≤ 9223372036854775807) (hv : planeB W H M L = true) (he : emptyB x0 y0 x1 y1 = true) :
    Calls Try.prog 23 #[.agg #[.int .i64 W, .int .i64 H, .int .i64 M, .slice a L.length cap], .agg #[.int .i64 x0, .int .i64 y0, .int .i64 x1, .int .i64 y1]] w (PlanePost (x1 - x0) (y1 - y0) M (cropO W H M L x0 y0 x1 y1) w) := by
  have hv' := Lib.hid hv
  have he' := Lib.hid he
  have hO := Lib.hid (crop_none (W := W) (H := H) (M := M) (L := L) (.inr (.inl he)))
  have hs' := Lib.hid hs
  clear hv hs he
  go_enter Try.func23, Try.ntmps23
  go_upto_region 1 with fail
  have hsb := Lib.hid (is_below hs'.out (bdrew1 (balloc (balloc (balloc (bref w) (.cells #[.int .i64 W, .int .i64 H, .int .i64 M, .slice a L.length cap] 35)) (.cells #[.int .i64 x0, .int .i64 y0, .int .i64 x1, .int .i64 y1] 33)) (.cells #[.int .i64 0, .int .i64 0, .int .i64 0, .slice none 0 0] 35))))
  go_region_with (first
    | (go_at_call 43; refine (rpvalid_is hv'.out _ _ _ hsb.out hl).mono ?_; rintro e w1 ⟨rfl, hb⟩; obtain ⟨hc, hf⟩ := bcell hb; obtain ⟨z0, z1, z2⟩ := sz3d hb)
    | (go_at_call 53; refine (rempty_is he'.out _).mono ?_; rintro e w2 ⟨rfl, hb2⟩; obtain ⟨hc2, hf2⟩ := bcell hb2; have y2 := bmore hb2 z2))
  all_goals
    go_wp2_with fail
    rw [hO.out]
    refine ret_plane2 Try.results23 rfl rfl rfl (((open3 _ _ _ _ _ _ _ _).below hb).below hb2) ⟨bput4 (bthen (bthen (bdrew1 (balloc (balloc (balloc (bref w) _) _) _)) hb) hb2) (by omega) _ _ _ _, rfl⟩
set_option maxHeartbeats 2000000 in
theorem rcrop_3 (W H M : Int) (L : List Int) (a : Option Addr) (cap : Nat) (x0 y0 x1 y1 : Int) (w : World) (hs : SliceIs w a L) (hl : L.length ≤ 9223372036854775807) (hv : planeB W H M L = true) (he : emptyB x0 y0 x1 y1 = false) (hi : insideB x0 y0 x1 y1 0 0 W H = false) :
    Calls Try.prog 23 #[.agg #[.int .i64 W, .int .i64 H, .int .i64 M, .slice a L.length cap], .agg #[.int .i64 x0, .int .i64 y0, .int .i64 x1, .int .i64 y1]] w (PlanePost (x1 - x0) (y1 - y0) M (cropO W H M L x0 y0 x1 y1) w) := by
  have hv' := Lib.hid hv
  have he' := Lib.hid he
  have hi' := Lib.hid hi
  have hO := Lib.hid (crop_none (W := W) (H := H) (M := M) (L := L) (.inr (.inr hi)))
  have hs' := Lib.hid hs
  clear hv hs he hi
  go_enter Try.func23, Try.ntmps23
  go_upto_region 1 with fail
  obtain ⟨W3, eW3⟩ : ∃ W3, ((w.alloc (.cells #[.int .i64 W, .int .i64 H, .int .i64 M, .slice a L.length cap] 35)).alloc (.cells #[.int .i64 x0, .int .i64 y0, .int .i64 x1, .int .i64 y1] 33)).alloc (.cells #[.int .i64 0, .int .i64 0, .int .i64 0, .slice none 0 0] 35) = W3 := ⟨_, rfl⟩
  have hB := balloc (balloc (balloc (bref w) (.cells #[.int .i64 W, .int .i64 H, .int .i64 M, .slice a L.length cap] 35)) (.cells #[.int .i64 x0, .int .i64 y0, .int .i64 x1, .int .i64 y1] 33)) (.cells #[.int .i64 0, .int .i64 0, .int .i64 0, .slice none 0 0] 35)
  have hS0 := prs_start w W H M (.slice a L.length cap) x0 y0 x1 y1 35 33 (.cells #[.int .i64 0, .int .i64 0, .int .i64 0, .slice none 0 0] 35)
  rw [eW3] at hS0
  have hS : PRS W3 w.heap.size (w.heap.size + 1) W H M (.slice a L.length cap) x0 y0 x1 y1 W3.drew := ⟨Lib.hid (bdrew1 hS0.1.out), hS0.2⟩
  have hOp : Open4 W3 (w.heap.size + 1 + 1) := by rw [← eW3]; exact (Open4.new _ _ _ _ _ _).at (by simp)
  have hz3 : W3.heap.size = w.heap.size + 1 + 1 + 1 := by rw [← eW3]; simp
  rw [eW3] at hB
  simp only [eW3]
  have hs3 := Lib.hid (is_below hs'.out hB)
  clear hS0 eW3
  go_region_held3 (fun w' => PRS W3 w.heap.size (w.heap.size + 1) W H M (.slice a L.length cap) x0 y0 x1 y1 w') ((first | exact hS | exact prs_keep hb ‹_›))
    (first
      | (go_at_call 43; refine (rpvalid_is hv'.out _ _ _ (is_below hs3.out (‹PRS W3 w.heap.size (w.heap.size + 1) W H M (.slice a L.length cap) x0 y0 x1 y1 _›).1.out) hl).mono ?_; rintro e w1 ⟨rfl, hb⟩)
      | (go_at_call 53; refine (rempty_is he'.out _).mono ?_; rintro e w1 ⟨rfl, hb⟩)
      | (go_at_call 47; refine (rcover_any _ _ _ _ _).mono ?_; rintro e w1 ⟨rfl, hb⟩)
      | (go_at_call 46; refine (rinside_is hi'.out _).mono ?_; rintro e w1 ⟨rfl, hb⟩))
  all_goals
    have hE := (show PRS W3 w.heap.size (w.heap.size + 1) W H M (.slice a L.length cap) x0 y0 x1 y1 _ from ‹_›).1.out
    have hOp2 := hOp.below hE
    obtain ⟨⟨v0, o0, f0⟩, ⟨v1, o1, f1⟩, ⟨v2, o2, f2⟩, ⟨v3, o3, f3⟩⟩ := open_cells hOp2
    go_wp2_with fail
    rw [hO.out]
    refine ret_plane2 Try.results23 rfl rfl rfl hOp2 ⟨bput4 (bthen hB hE) (by omega) _ _ _ _, rfl⟩
open Go.ChangeShapes Go.WideShapes Go.ChangeAt Go.RowKit
set_option linter.unusedVariables false
set_option linter.unusedSimpArgs false

theorem rpnew_is {cw ch : Nat} {M : Int} (h : sizeB cw ch M = true) (w : World) : Calls Try.prog 48 #[.int .i64 cw, .int .i64 ch, .int .i64 M] w
    fun e w' => ∃ g cap, e = .returned (.tuple #[pv cw ch M g (cw * ch) cap, .bool true]) ∧ PixAt w.heap.size w' g cap (List.replicate (cw * ch) 0) ∧ Below w.heap.size w w' := by
  have := rpnew_any cw ch M w
  unfold newO PlanePost at this
  rw [if_pos h] at this
  have e : ((cw : Int) * (ch : Int)).toNat = cw * ch := by exact_mod_cast rfl
  rw [e] at this
  refine this.mono fun e w' ⟨hb, g, cap, he, hp⟩ => ⟨g, cap, ?_, hp, hb⟩
  simpa using he
/-- while a crop is filled: the arguments, the new plane, what is filled so far -/
structure CropS (W3 : World) (B Q g cap : Nat) (W H M : Int) (sl : Value) (x0 y0 x1 y1 : Int) (cw ch : Nat) (K : List Int) (w' : World) : Prop where
  prs : PRS W3 B (B + 1) W H M sl x0 y0 x1 y1 w'
  q0 : w'.cell? ⟨Q, 0, none⟩ = some (.int .i64 cw)
  q1 : w'.cell? ⟨Q, 1, none⟩ = some (.int .i64 ch)
  q2 : w'.cell? ⟨Q, 2, none⟩ = some (.int .i64 M)
  q3 : w'.cell? ⟨Q, 3, none⟩ = some (.slice (some ⟨g, 0, none⟩) K.length cap)
  op : Open4 w' (B + 1 + 1)
  pix : PixAt W3.heap.size w' g cap K
  far : ¬ g = B ∧ ¬ g = B + 1 ∧ ¬ g = B + 1 + 1 ∧ ¬ g = Q
theorem CropS.store {W3 : World} {B Q g cap : Nat} {W H M : Int} {sl : Value} {x0 y0 x1 y1 : Int} {cw ch : Nat} {K : List Int} {w' : World} (h : CropS W3 B Q g cap W H M sl x0 y0 x1 y1 cw ch K w') (k : Nat) (v : Int) :
    CropS W3 B Q g cap W H M sl x0 y0 x1 y1 cw ch (K.set k v) (w'.setCell ⟨g, k, none⟩ (.int .i64 v)) := by
  obtain ⟨h0, h1, h2, h3, h4, h5, h6, h7, h8⟩ := h.prs
  obtain ⟨f0, f1, f2, f3⟩ := h.far
  have hg := grown_set w' g k (.int .i64 v)
  have c : ∀ b o u, ¬ g = b → w'.cell? ⟨b, o, none⟩ = some u → (w'.setCell ⟨g, k, none⟩ (.int .i64 v)).cell? ⟨b, o, none⟩ = some u := fun b o u hne hc => hg.cell hc (by simpa using Ne.symm hne)
  refine ⟨⟨Lib.hid (h0.out.setCell h.pix.lt.1 _), c _ _ _ f0 h1, c _ _ _ f0 h2, c _ _ _ f0 h3, c _ _ _ f0 h4, c _ _ _ f1 h5, c _ _ _ f1 h6, c _ _ _ f1 h7, c _ _ _ f1 h8⟩, c _ _ _ f3 h.q0, c _ _ _ f3 h.q1, c _ _ _ f3 h.q2, ?_, ?_, (h.pix.store k v).1, h.far⟩
  · rw [List.length_set]; exact c _ _ _ f3 h.q3
  · exact h.op.grown hg (by simpa using Ne.symm f2)
theorem CropS.drewN {W3 : World} {B Q g cap : Nat} {W H M : Int} {sl : Value} {x0 y0 x1 y1 : Int} {cw ch : Nat} {K : List Int} {w' : World} (h : CropS W3 B Q g cap W H M sl x0 y0 x1 y1 cw ch K w') (n : Nat) :
    CropS W3 B Q g cap W H M sl x0 y0 x1 y1 cw ch K (w'.drewN n) := by
  obtain ⟨h0, h1⟩ := h.prs
  exact ⟨⟨Lib.hid (bdrewN h0.out n), h1⟩, h.q0, h.q1, h.q2, h.q3, h.op.below (bdrewN (bref _) n), h.pix.drewN n, h.far⟩
/-- what one pixel's copying reads and writes -/
abbrev PxS (B Q g D b o : Nat) (W : Int) (sl sg : Value) (x0 y0 : Int) (cw : Nat) (V : Int) (w' : World) : Prop :=
  w'.cell? ⟨B, 0, none⟩ = some (.int .i64 W) ∧ w'.cell? ⟨B, 3, none⟩ = some sl ∧ w'.cell? ⟨B + 1, 0, none⟩ = some (.int .i64 x0) ∧ w'.cell? ⟨B + 1, 1, none⟩ = some (.int .i64 y0) ∧ w'.cell? ⟨Q, 0, none⟩ = some (.int .i64 cw) ∧ w'.cell? ⟨Q, 3, none⟩ = some sg ∧
    w'.cell? ⟨b, o, none⟩ = some (.int .i64 V) ∧ w'.cell? ⟨g, D, none⟩ = some (valAt w' g D) ∧ w'.frozen? ⟨g, D, none⟩ = false
theorem pxS_set {B Q g D b o : Nat} {W : Int} {sl sg : Value} {x0 y0 : Int} {cw : Nat} {V : Int} {w' : World} (hf : (¬ g = B ∧ ¬ g = B + 1 ∧ ¬ g = Q) ∧ ¬ g = b) (h : PxS B Q g D b o W sl sg x0 y0 cw V w') (u : Value) : PxS B Q g D b o W sl sg x0 y0 cw V (w'.setCell ⟨g, D, none⟩ u) := by
  obtain ⟨h0, h1, h2, h3, h4, h5, h6, h7, h8⟩ := h
  obtain ⟨⟨f0, f1, f3⟩, f4⟩ := hf
  have hg := grown_set w' g D u
  have c : ∀ b o u', ¬ g = b → w'.cell? ⟨b, o, none⟩ = some u' → (w'.setCell ⟨g, D, none⟩ u).cell? ⟨b, o, none⟩ = some u' := fun b o u' hne hc => hg.cell hc (by simpa using Ne.symm hne)
  have hs := World.cell?_setCell_same w' ⟨g, D, none⟩ u h7
  refine ⟨c _ _ _ f0 h0, c _ _ _ f0 h1, c _ _ _ f1 h2, c _ _ _ f1 h3, c _ _ _ f3 h4, c _ _ _ f3 h5, c _ _ _ f4 h6, ?_, by rw [World.frozen?_setCell]; exact h8⟩
  rw [hs]; simp [valAt, hs]
theorem wrap_id (n : Int) (h0 : -9223372036854775808 ≤ n) (h1 : n ≤ 9223372036854775807) : wrap64 n = n := by
  unfold wrap64; omega
theorem agree_done {K C : List Int} {m : Nat} (h : Agree K C m) (hl : K.length = C.length) (hm : m = K.length) : K = C := by
  subst hm; exact agree_eq hl h
set_option maxHeartbeats 4000000 in
theorem rcrop_4 (W H M : Int) (L : List Int) (a : Option Addr) (cap : Nat) (x0 y0 x1 y1 : Int) (w : World) (hs : SliceIs w a L) (hl : L.length ≤ 9223372036854775807) (hk : cropOk W H M L x0 y0 x1 y1) :
    Calls Try.prog 23 #[.agg #[.int .i64 W, .int .i64 H, .int .i64 M, .slice a L.length cap], .agg #[.int .i64 x0, .int .i64 y0, .int .i64 x1, .int .i64 y1]] w (PlanePost (x1 - x0) (y1 - y0) M (cropO W H M L x0 y0 x1 y1) w) := by
  have hv' := Lib.hid hk.1
  have he' := Lib.hid hk.2.1
  have hi' := Lib.hid hk.2.2
  have hO := Lib.hid (show cropO W H M L x0 y0 x1 y1 = some (cropL W L x0 y0 x1 y1) from if_pos hk)
  obtain ⟨⟨a0, a1, a2⟩, b0, b1, b2⟩ := cropOk_bd hk
  obtain ⟨hsz, hlen, _⟩ := planeB_t.1 hk.1
  obtain ⟨⟨w1, w2⟩, ⟨h1, h2⟩, hp, m1, m2⟩ := sizeB_t.1 hsz
  have hlen' := Lib.hid hlen
  have hs' := Lib.hid hs
  obtain ⟨cw, hcw⟩ : ∃ cw : Nat, x1 - x0 = cw := ⟨(x1 - x0).toNat, by omega⟩
  obtain ⟨ch, hch⟩ : ∃ ch : Nat, y1 - y0 = ch := ⟨(y1 - y0).toNat, by omega⟩
  have hz := Lib.hid (show sizeB cw ch M = true by rw [← hcw, ← hch]; exact cropOk_size hk)
  obtain ⟨C, hC⟩ : ∃ C, cropL W L x0 y0 x1 y1 = C := ⟨_, rfl⟩
  have hCl : C.length = cw * ch := by rw [← hC, cropL_len, hcw, hch]; exact_mod_cast rfl
  have hCa := Lib.hid (show ∀ j, j < cw * ch → C.getD j 0 = cropAt W L x0 y0 cw j from fun j hj => by
    rw [← hC, ← hcw]; refine cropL_at ?_; rw [hcw, hch]; exact_mod_cast hj)
  rw [hC] at hO
  have hl4 : L.length ≤ 4096 := plane_len hk.1
  have hcc : cw * ch ≤ 4096 := by
    have h := (sizeB_t.1 hz.out).2.2.1
    have e : ((cw : Int) * (ch : Int)) = ((cw * ch : Nat) : Int) := by push_cast; rfl
    rw [e] at h; omega
  have hCl' := Lib.hid hCl
  clear hk hs hsz hlen hp hC hCl
  go_enter Try.func23, Try.ntmps23
  go_upto_region 1 with fail
  obtain ⟨W3, eW3⟩ : ∃ W3, ((w.alloc (.cells #[.int .i64 W, .int .i64 H, .int .i64 M, .slice a L.length cap] 35)).alloc (.cells #[.int .i64 x0, .int .i64 y0, .int .i64 x1, .int .i64 y1] 33)).alloc (.cells #[.int .i64 0, .int .i64 0, .int .i64 0, .slice none 0 0] 35) = W3 := ⟨_, rfl⟩
  have hB := balloc (balloc (balloc (bref w) (.cells #[.int .i64 W, .int .i64 H, .int .i64 M, .slice a L.length cap] 35)) (.cells #[.int .i64 x0, .int .i64 y0, .int .i64 x1, .int .i64 y1] 33)) (.cells #[.int .i64 0, .int .i64 0, .int .i64 0, .slice none 0 0] 35)
  have hS0 := prs_start w W H M (.slice a L.length cap) x0 y0 x1 y1 35 33 (.cells #[.int .i64 0, .int .i64 0, .int .i64 0, .slice none 0 0] 35)
  rw [eW3] at hS0
  have hS : PRS W3 w.heap.size (w.heap.size + 1) W H M (.slice a L.length cap) x0 y0 x1 y1 W3.drew := ⟨Lib.hid (bdrew1 hS0.1.out), hS0.2⟩
  have hOp : Open4 W3 (w.heap.size + 1 + 1) := by rw [← eW3]; exact (Open4.new _ _ _ _ _ _).at (by simp)
  have hz3 : W3.heap.size = w.heap.size + 1 + 1 + 1 := by rw [← eW3]; simp
  rw [eW3] at hB
  simp only [eW3]
  have hs3 := Lib.hid (is_below hs'.out hB)
  have hB' := Lib.hid hB
  have hOp' := Lib.hid hOp
  clear hS0 eW3 hB hOp
  go_cut [23] (fun s wx => s = .bool false ∧ PRS W3 w.heap.size (w.heap.size + 1) W H M (.slice a L.length cap) x0 y0 x1 y1 wx)
  case first =>
    go_region_held3 (fun w' => PRS W3 w.heap.size (w.heap.size + 1) W H M (.slice a L.length cap) x0 y0 x1 y1 w') ((first | exact hS | exact prs_keep hb ‹_›))
      (first
        | (go_at_call 43; refine (rpvalid_is hv'.out _ _ _ (is_below hs3.out (‹PRS W3 w.heap.size (w.heap.size + 1) W H M (.slice a L.length cap) x0 y0 x1 y1 _›).1.out) hl).mono ?_; rintro e w1 ⟨rfl, hb⟩)
        | (go_at_call 53; refine (rempty_is he'.out _).mono ?_; rintro e w1 ⟨rfl, hb⟩)
        | (go_at_call 47; refine (rcover_any _ _ _ _ _).mono ?_; rintro e w1 ⟨rfl, hb⟩)
        | (go_at_call 46; refine (rinside_is hi'.out _).mono ?_; rintro e w1 ⟨rfl, hb⟩))
    all_goals
      go_wp2_with fail
      go_meet
      exact ⟨rfl, ‹_›⟩
  case rest =>
    obtain ⟨rfl, hP0, hP1, hP2, hP3, hP4, hP5, hP6, hP7, hP8⟩ := hcut
    have hlt3 : w.heap.size + 1 + 1 < wc.heap.size := by have := hP0.out.size; omega
    go_wp2_with fail
    refine (rpnew_is hz.out _).mono ?_; rintro e wN ⟨g, gc, rfl, hPix, hb⟩
    simp only [pv]
    have hgl := hPix.lt
    have hC0 : CropS W3 w.heap.size wN.heap.size g gc W H M (.slice a L.length cap) x0 y0 x1 y1 cw ch (List.replicate (cw * ch) 0) (wN.alloc (.cells #[.int .i64 cw, .int .i64 ch, .int .i64 M, .slice (some ⟨g, 0, none⟩) (cw * ch) gc] 35)) :=
      ⟨prs_keep (balloc (bref _) _) (prs_keep hb ⟨hP0, hP1, hP2, hP3, hP4, hP5, hP6, hP7, hP8⟩), by go_cell, by go_cell, by go_cell, by rw [List.length_replicate]; go_cell, ((hOp'.out.below hP0.out).below hb).alloc _, (hPix.base hP0.out.size).below (balloc (bref _) _), by omega⟩
    replace hC0 := Lib.hid hC0
    clear hP0 hP1 hP2 hP3 hP4 hP5 hP6 hP7 hP8 hb hPix hS hgl hlt3
    go_wp2_with fail
    go_loopw [8] (fun y wr => ∃ (k : Nat) (K : List Int), k ≤ ch ∧ y = .int .i64 k ∧ Hid (K.length = cw * ch ∧ Agree K C (k * cw)) ∧ Hid (CropS W3 w.heap.size wN.heap.size g gc W H M (.slice a L.length cap) x0 y0 x1 y1 cw ch K wr)) (fun y _ => ch - (intOf y).toNat)
    case atStart => exact ⟨0, _, by omega, rfl, Lib.hid ⟨by simp, by rw [Nat.zero_mul]; exact agree_zero _ _⟩, hC0⟩
    case round =>
      clear hC0
      obtain ⟨k, K, hk, rfl, hK, hS⟩ := hrel
      by_cases hlt : k < ch
      · have hkI : (k : Int) < ch := by omega
        have q1 := hS.out.q1
        go_wp2_with fail
        clear q1
        go_loopw [9] (fun x wr => ∃ (j : Nat) (K : List Int), j ≤ cw ∧ x = .int .i64 j ∧ Hid (K.length = cw * ch ∧ Agree K C (k * cw + j)) ∧ Hid (CropS W3 w.heap.size wN.heap.size g gc W H M (.slice a L.length cap) x0 y0 x1 y1 cw ch K wr)) (fun x _ => cw - (intOf x).toNat)
        case atStart => exact ⟨0, K, by omega, rfl, Lib.hid ⟨hK.out.1, by rw [Nat.add_zero]; exact hK.out.2⟩, hS⟩
        case round =>
          clear hK hS
          obtain ⟨j, K, hj, rfl, hK, hS⟩ := hrel
          by_cases hltj : j < cw
          · have hltI : (j : Int) < cw := by omega
            obtain ⟨t0, t1⟩ := place_bd (W := W) (H := H) (k := k + y0) (i := x0 + j) (by omega) (by omega) (by omega) (by omega)
            obtain ⟨T, eT⟩ : ∃ T, ((k : Int) + y0) * W = T := ⟨_, rfl⟩
            rw [eT] at t0 t1
            obtain ⟨I, eI⟩ : ∃ I : Nat, T + j + x0 = I := ⟨(T + j + x0).toNat, by omega⟩
            have hIl : I < L.length := by have := hlen'.out; omega
            obtain ⟨b, off, rfl, hcell⟩ := (is_below hs3.out hS.out.prs.1.out) I hIl
            obtain ⟨V, eV⟩ : ∃ V, L.getD I 0 = V := ⟨_, rfl⟩
            rw [eV] at hcell
            have hlk : k * cw + j < cw * ch := by
              have h1 : (k + 1) * cw ≤ ch * cw := Nat.mul_le_mul_right _ (by omega)
              rw [Nat.add_one_mul] at h1
              rw [Nat.mul_comm cw ch]; omega
            have hVC := Lib.hid (show V = C.getD (k * cw + j) 0 by
              rw [hCa.out _ hlk, cropAt_place hltI (y := k) (by push_cast; rfl), ← eV, show (y0 + (k : Int)) * W + (x0 + j) = I by rw [Int.add_comm y0, eT]; omega]; simp)
            obtain ⟨S, eS⟩ : ∃ S : Nat, (k : Int) * cw = S := ⟨k * cw, by push_cast; rfl⟩
            have eSn : k * cw = S := by exact_mod_cast eS
            rw [eSn] at hlk hVC hK
            obtain ⟨D, eD⟩ : ∃ D : Nat, (S : Int) + j = D := ⟨S + j, by push_cast; rfl⟩
            have eDn : S + j = D := by omega
            rw [eDn] at hlk hVC hK
            have hDl : D < K.length := by rw [hK.out.1]; exact hlk
            have hD4 : D < 4096 := Nat.lt_of_lt_of_le hlk hcc
            have hD1 : (D : Int) < K.length := by omega
            have hI1 : (I : Int) < L.length := by omega
            have hdc := hS.out.pix.cell hDl
            have hdf := hS.out.pix.frozen D
            obtain ⟨_, p0, _, _, p3, r0, r1, _, _⟩ := hS.out.prs
            have q0 := hS.out.q0
            have q3 := hS.out.q3
            have hbl : b < w.heap.size := by
              obtain ⟨b', off', e, hc⟩ := hs'.out I hIl
              simp at e
              rw [e.1]; exact World.block_lt_of_cell? _ _ hc
            obtain ⟨g0, g1, g2, g3⟩ := hS.out.far
            have hgb : ¬ g = b := by have := hS.out.pix.lt.1; omega
            have hPx : PxS w.heap.size wN.heap.size g D b (off + I) W (.slice (some ⟨b, off, none⟩) L.length cap) (.slice (some ⟨g, 0, none⟩) K.length gc) x0 y0 cw V wr.drew :=
              ⟨p0, p3, r0, r1, q0, q3, hcell, (show wr.cell? ⟨g, D, none⟩ = some (valAt wr g D) by simp [valAt, hdc]), hdf⟩
            have hS2 := Lib.hid ((hS.out.drewN 1).store D V)
            have hK2 := Lib.hid (show (K.set D V).length = cw * ch ∧ Agree (K.set D V) C (D + 1) from ⟨by rw [List.length_set]; exact hK.out.1, agree_set hK.out.2 hDl hVC.out⟩)
            have eDn' := Lib.hid eDn
            have eSn' := Lib.hid eSn
            have hff : (¬ g = w.heap.size ∧ ¬ g = w.heap.size + 1 ∧ ¬ g = wN.heap.size) ∧ ¬ g = b := ⟨⟨g0, g1, g3⟩, hgb⟩
            clear eV hIl hDl eDn eSn hlk hdc hdf p0 p3 r0 r1 q0 q3 hcell g0 g1 g2 g3 hgb
            have e1 : IntKind.i64.wrap ((k : Int) + y0) = (k : Int) + y0 := IntWalk.i64_in _ (by omega)
            have e2 : IntKind.i64.wrap T = T := IntWalk.i64_in _ (by omega)
            have e3 : IntKind.i64.wrap (T + j) = T + j := IntWalk.i64_in _ (by omega)
            have e4 : IntKind.i64.wrap (I : Int) = I := IntWalk.i64_in _ (by omega)
            have f1 : IntKind.i64.wrap (S : Int) = S := IntWalk.i64_in _ (by omega)
            have f2 : IntKind.i64.wrap (D : Int) = D := IntWalk.i64_in _ (by omega)
            have q0' := hS.out.q0
            go_upto_region 10 with fail
            clear q0'
            go_region_held3 (fun w' => PxS w.heap.size wN.heap.size g D b (off + I) W (.slice (some ⟨b, off, none⟩) L.length cap) (.slice (some ⟨g, 0, none⟩) K.length gc) x0 y0 cw V w') ((first | exact hPx | exact pxS_set hff ‹_› _)) (fail)
            all_goals
              go_wp2_with fail
              go_roundw
              case rel => exact ⟨j + 1, _, by omega, by go_num, Lib.hid (by rw [eSn'.out, ← Nat.add_assoc, eDn'.out]; exact hK2.out), hS2⟩
              case measure => simp [intOf]; omega
          · obtain rfl : j = cw := by omega
            have q0 := hS.out.q0
            go_wp2_with fail
            go_roundw
            case rel => exact ⟨k + 1, K, by omega, by go_num, Lib.hid ⟨hK.out.1, by rw [Nat.add_one_mul]; exact hK.out.2⟩, hS⟩
            case measure => simp [intOf]; omega
      · obtain rfl : k = ch := by omega
        have hKC := Lib.hid (agree_done hK.out.2 (by rw [hCl'.out]; exact hK.out.1) (by rw [hK.out.1, Nat.mul_comm]))
        obtain ⟨q0, q1, q2, q3⟩ := And.intro hS.out.q0 (And.intro hS.out.q1 (And.intro hS.out.q2 hS.out.q3))
        obtain ⟨⟨v0, o0, f0⟩, ⟨v1, o1, f1⟩, ⟨v2, o2, f2⟩, ⟨v3, o3, f3⟩⟩ := open_cells hS.out.op
        go_wp2_with fail
        rw [hO.out, hcw, hch]
        refine ret_plane2 Try.results23 rfl rfl rfl hS.out.op ⟨bput4 (bthen hB'.out hS.out.prs.1.out) (by omega) _ _ _ _, g, gc, ?_, ?_⟩
        · rw [hKC.out]; rfl
        · rw [← hKC.out]
          obtain ⟨g0, g1, g2, g3⟩ := hS.out.far
          exact (hS.out.pix.base (by omega)).grown (gput4 (gref _ (some (w.heap.size + 1 + 1))) (.inr rfl) _ _ _ _) (by simpa using g2)
theorem rcrop_any (W H M : Int) (L : List Int) (a : Option Addr) (cap : Nat) (x0 y0 x1 y1 : Int) (w : World) (hs : SliceIs w a L) (hl : L.length ≤ 9223372036854775807) :
    Calls Try.prog 23 #[.agg #[.int .i64 W, .int .i64 H, .int .i64 M, .slice a L.length cap], .agg #[.int .i64 x0, .int .i64 y0, .int .i64 x1, .int .i64 y1]] w (PlanePost (x1 - x0) (y1 - y0) M (cropO W H M L x0 y0 x1 y1) w) := by
  rcases hv : planeB W H M L with _ | _
  · exact rcrop_1 W H M L a cap x0 y0 x1 y1 w hs hl hv
  rcases he : emptyB x0 y0 x1 y1 with _ | _
  · rcases hi : insideB x0 y0 x1 y1 0 0 W H with _ | _
    · exact rcrop_3 W H M L a cap x0 y0 x1 y1 w hs hl hv he hi
    · exact rcrop_4 W H M L a cap x0 y0 x1 y1 w hs hl ⟨hv, he, hi⟩
  · exact rcrop_2 W H M L a cap x0 y0 x1 y1 w hs hl hv he
end Go.Proofs.Ytibmoibhbgbfoaa
