/- The contract of slices.Clone at ints. The contract of plane.Blit: where nothing is blitted. -/
import Derived.Test.YtpmajophkhihlaaPCrop
import Derived.Lib.LazyBuf
import Derived.Test.YtpmajophkhihlaaPRBlitB
namespace Go.Proofs.Ytpmajophkhihlaa
open Go.ChangeShapes Go.WideShapes Go.ChangeAt Go.RowKit
set_option linter.unusedVariables false
set_option linter.unusedSimpArgs false

theorem clone_any (L : List Int) (a : Option Addr) (cap : Nat) (w : World) (hs : SliceIs w a L) (l1 : 1 ≤ L.length) (l2 : L.length ≤ 16384) :
    Calls Try.prog 37 #[.slice a L.length cap] w fun e w' => ∃ g c, e = .returned (.slice (some ⟨g, 0, none⟩) L.length c) ∧ PixAt w.heap.size w' g c L ∧ Below w.heap.size w w' := by
  obtain ⟨b, off, rfl, hc⟩ := slice_some hs l1
  have hc' := Lib.hid hc
  have hs' := Lib.hid hs
  obtain ⟨i0, hi, hi0, hi1, hi2⟩ := info_parts infoI
  have hE := World.ownsRow_lit (base := w.heap.size) (e := 3) (size := 1) w #[] 0 (by simp) (by unfold maxLen; omega) (by simp)
  have hE' := Lib.hid hE
  have hnil : ∀ w : World, (binOp .eql 22 (.slice (some ⟨b, off, none⟩) L.length cap) (.slice none 0 0)).run Try.prog w = .ok (.bool false) w := fun w => Go.run_eql_slice_nil w _ _ _ _ _ Try.underlying22
  clear hc hs hE
  go_enter Try.func37, Try.ntmps37
  go_wp2_with (at_builtin; refine wpList_append_lies _ rfl _ _ _ rfl w.heap.size 3 i0 (.int .i64 0) 1 8 Try.underlying22 hi hi0 hi1 hi2 rfl (by decide) (.slice (some ⟨w.heap.size, 0, none⟩) 0 0) 0 [] rfl hE'.out ⟨b, off, none⟩ L.length cap (ints L) rfl (by simp [ints]) (news_ints (fun k hk => by have h0 := hc'.out k hk; rw [(balloc (bref w) _).cell (World.block_lt_of_cell? _ _ h0)]; exact h0)) ints_one (by omega) (by unfold maxLen; omega) (by omega) (by simp) (w.heap.size + 1) (by simp) ?_; intro g c w1 hown hgrow hat hlt)
  have hB : Below w.heap.size w w1 := (balloc (bref w) _).grown hgrow (by simp) (fun q e => by simp [Value.ownBlock] at e; omega)
  go_ret
  exact ⟨g, c, by simp, by simpa [PixAt] using hown, hB⟩
open Go.ChangeShapes Go.WideShapes Go.ChangeAt Go.RowKit
set_option linter.unusedVariables false
set_option linter.unusedSimpArgs false

theorem max_is {L : List Int} {v : Int} (e : topTo L L.length = v) (a : Option Addr) (cap : Nat) (w : World) (hs : SliceIs w a L) (h1 : 1 ≤ L.length) (h2 : L.length ≤ 9223372036854775807) :
    Calls Try.prog 36 #[.slice a L.length cap] w fun e w' => e = .returned (.int .i64 v) ∧ w = w' := by
  rw [← e]; exact max_any L a cap w hs h1 h2
theorem under_false {M : Int} {K : List Int} (h1 : 1 ≤ K.length) (h : topTo K K.length > M) : ∃ k, k < K.length ∧ M < K.getD k 0 := by
  apply Classical.byContradiction
  intro hn
  have : Under M K K.length := fun k hk => by
    apply Classical.byContradiction
    intro h2
    exact hn ⟨k, hk, by omega⟩
  have := (top_under h1).1 this
  omega
section
variable (W H M : Int) (L : List Int) (a : Option Addr) (cap : Nat) (W2 H2 M2 : Int) (K : List Int) (a2 : Option Addr) (cap2 : Nat) (x y : Int) (w : World)
set_option maxHeartbeats 2000000 in
theorem pblit_1 (hs : SliceIs w a L) (hl : L.length ≤ 9223372036854775807) (hv : planeB W H M L = false) :
    Calls Try.prog 14 #[.agg #[.int .i64 W, .int .i64 H, .int .i64 M, .slice a L.length cap], .agg #[.int .i64 W2, .int .i64 H2, .int .i64 M2, .slice a2 K.length cap2], .int .i64 x, .int .i64 y] w (PlanePost W H M (blitO W H M L W2 H2 M2 K x y) w) := by
  have hv' := Lib.hid hv
  have hO := Lib.hid (blit_none (W2 := W2) (H2 := H2) (M2 := M2) (K := K) (x := x) (y := y) (.inl hv))
  have hs' := Lib.hid hs
  clear hv hs
  go_enter Try.func14, Try.ntmps14
  go_upto_region 1 with fail
  have hsb := Lib.hid (is_below hs'.out (bdrew1 (balloc (balloc (balloc (bref w) (.cells #[.int .i64 W, .int .i64 H, .int .i64 M, .slice a L.length cap] 26)) (.cells #[.int .i64 W2, .int .i64 H2, .int .i64 M2, .slice a2 K.length cap2] 26)) (.cells #[.int .i64 0, .int .i64 0, .int .i64 0, .slice none 0 0] 26))))
  first | go_region_with (go_at_call 17; refine (pvalid_is hv'.out _ _ _ hsb.out hl).mono ?_; rintro e w1 ⟨rfl, hb⟩; obtain ⟨hc, hf⟩ := bcell hb; obtain ⟨z0, z1, z2⟩ := sz3d hb) | fail
  all_goals
    go_wp2_with fail
    rw [hO.out]
    refine ret_plane2 Try.results14 rfl rfl rfl ((open3 _ _ _ _ _ _ _ _).below hb) ⟨bput4 (bthen (bdrew1 (balloc (balloc (balloc (bref w) _) _) _)) hb) (by omega) _ _ _ _, rfl⟩
set_option maxHeartbeats 2000000 in
theorem pblit_2 (hs : SliceIs w a L) (hl : L.length ≤ 9223372036854775807) (hs2 : SliceIs w a2 K) (hl2 : K.length ≤ 9223372036854775807) (hv : planeB W H M L = true) (hv2 : planeB W2 H2 M2 K = false) :
    Calls Try.prog 14 #[.agg #[.int .i64 W, .int .i64 H, .int .i64 M, .slice a L.length cap], .agg #[.int .i64 W2, .int .i64 H2, .int .i64 M2, .slice a2 K.length cap2], .int .i64 x, .int .i64 y] w (PlanePost W H M (blitO W H M L W2 H2 M2 K x y) w) := by
  have hv' := Lib.hid hv
  have hv2' := Lib.hid hv2
  have hO := Lib.hid (blit_none (W := W) (H := H) (M := M) (L := L) (x := x) (y := y) (.inr (.inl hv2)))
  have hs' := Lib.hid hs
  have hs2' := Lib.hid hs2
  clear hv hs hv2 hs2
  have hB0 := bdrew1 (balloc (balloc (balloc (bref w) (.cells #[.int .i64 W, .int .i64 H, .int .i64 M, .slice a L.length cap] 26)) (.cells #[.int .i64 W2, .int .i64 H2, .int .i64 M2, .slice a2 K.length cap2] 26)) (.cells #[.int .i64 0, .int .i64 0, .int .i64 0, .slice none 0 0] 26))
  have hsb := Lib.hid (is_below hs'.out hB0)
  have hsb2 := Lib.hid (is_below hs2'.out hB0)
  replace hB0 := Lib.hid hB0
  go_enter Try.func14, Try.ntmps14
  go_upto_region 1 with fail
  first | go_region_with (first
    | (go_at_call 17; ((with_reducible refine (pvalid_is hv'.out a cap _ hsb.out hl).mono ?_); rintro e w1 ⟨rfl, hb⟩; obtain ⟨hc, hf⟩ := bcell hb; obtain ⟨z0, z1, z2⟩ := sz3d hb))
    | (go_at_call 17; ((with_reducible refine (pvalid_is hv2'.out a2 cap2 _ (is_below hsb2.out hb) hl2).mono ?_); rintro e w2 ⟨rfl, hb2⟩; obtain ⟨hc2, hf2⟩ := bcell hb2; have y2 := bmore hb2 z2))) | fail
  all_goals
    go_wp2_with fail
    rw [hO.out]
    refine ret_plane2 Try.results14 rfl rfl rfl (((open3 _ _ _ _ _ _ _ _).below hb).below hb2) ⟨bput4 (bthen (bthen hB0.out hb) hb2) (by omega) _ _ _ _, rfl⟩
set_option maxHeartbeats 2000000 in
theorem pblit_3 (hs : SliceIs w a L) (hl : L.length ≤ 9223372036854775807) (hs2 : SliceIs w a2 K) (hl2 : K.length ≤ 9223372036854775807) (hv : planeB W H M L = true) (hv2 : planeB W2 H2 M2 K = true) (hk : topTo K K.length > M) :
    Calls Try.prog 14 #[.agg #[.int .i64 W, .int .i64 H, .int .i64 M, .slice a L.length cap], .agg #[.int .i64 W2, .int .i64 H2, .int .i64 M2, .slice a2 K.length cap2], .int .i64 x, .int .i64 y] w (PlanePost W H M (blitO W H M L W2 H2 M2 K x y) w) := by
  have hv' := Lib.hid hv
  have hv2' := Lib.hid hv2
  obtain ⟨⟨c1, c2⟩, ⟨d1, d2⟩, _, _, _⟩ := sizeB_t.1 (planeB_t.1 hv2).1
  have hK1 : 1 ≤ K.length := by have := (planeB_t.1 hv2).2.1; have := (prod_bd c1 c2 d1 d2).1; omega
  have hO := Lib.hid (blit_none (W := W) (H := H) (M := M) (L := L) (W2 := W2) (H2 := H2) (M2 := M2) (K := K) (x := x) (y := y) (.inr (.inr (.inr (under_false hK1 hk)))))
  have hs' := Lib.hid hs
  have hs2' := Lib.hid hs2
  obtain ⟨top, et⟩ : ∃ top, topTo K K.length = top := ⟨_, rfl⟩
  rw [et] at hk
  have et' := Lib.hid et
  have hd : decide (top > M) = true := by simpa using hk
  clear hv hs hv2 hs2 et
  go_enter Try.func14, Try.ntmps14
  go_upto_region 1 with fail
  obtain ⟨W3, eW3⟩ : ∃ W3, ((w.alloc (.cells #[.int .i64 W, .int .i64 H, .int .i64 M, .slice a L.length cap] 26)).alloc (.cells #[.int .i64 W2, .int .i64 H2, .int .i64 M2, .slice a2 K.length cap2] 26)).alloc (.cells #[.int .i64 0, .int .i64 0, .int .i64 0, .slice none 0 0] 26) = W3 := ⟨_, rfl⟩
  have hB := balloc (balloc (balloc (bref w) (.cells #[.int .i64 W, .int .i64 H, .int .i64 M, .slice a L.length cap] 26)) (.cells #[.int .i64 W2, .int .i64 H2, .int .i64 M2, .slice a2 K.length cap2] 26)) (.cells #[.int .i64 0, .int .i64 0, .int .i64 0, .slice none 0 0] 26)
  have hS0 := pps_start w W H M (.slice a L.length cap) W2 H2 M2 (.slice a2 K.length cap2) 26 26 (.cells #[.int .i64 0, .int .i64 0, .int .i64 0, .slice none 0 0] 26)
  rw [eW3] at hS0
  have hS : PPS W3 w.heap.size (w.heap.size + 1) W H M (.slice a L.length cap) W2 H2 M2 (.slice a2 K.length cap2) W3.drew := ⟨Lib.hid (bdrew1 hS0.1.out), hS0.2⟩
  have hOp := open3n w (.cells #[.int .i64 W, .int .i64 H, .int .i64 M, .slice a L.length cap] 26) (.cells #[.int .i64 W2, .int .i64 H2, .int .i64 M2, .slice a2 K.length cap2] 26) (.int .i64 0) (.int .i64 0) (.int .i64 0) (.slice none 0 0) 26
  rw [eW3] at hOp hB
  have hz3 : W3.heap.size = w.heap.size + 1 + 1 + 1 := by rw [← eW3]; simp
  simp only [eW3]
  have hs3 := Lib.hid (is_below hs'.out hB)
  have hs23 := Lib.hid (is_below hs2'.out hB)
  clear hS0 eW3
  go_region_held3 (fun w' => PPS W3 w.heap.size (w.heap.size + 1) W H M (.slice a L.length cap) W2 H2 M2 (.slice a2 K.length cap2) w') ((first | exact hS | exact pps_keep hb ‹_› | assumption))
    (first
      | (go_at_call 17; ((with_reducible refine (pvalid_is hv'.out a cap _ (is_below hs3.out (‹PPS W3 w.heap.size (w.heap.size + 1) W H M (.slice a L.length cap) W2 H2 M2 (.slice a2 K.length cap2) _›).1.out) hl).mono ?_); rintro e w1 ⟨rfl, hb⟩))
      | (go_at_call 17; ((with_reducible refine (pvalid_is hv2'.out a2 cap2 _ (is_below hs23.out (‹PPS W3 w.heap.size (w.heap.size + 1) W H M (.slice a L.length cap) W2 H2 M2 (.slice a2 K.length cap2) _›).1.out) hl2).mono ?_); rintro e w1 ⟨rfl, hb⟩))
      | (go_at_call 36; ((with_reducible refine (max_is et'.out a2 cap2 _ (is_below hs23.out (‹PPS W3 w.heap.size (w.heap.size + 1) W H M (.slice a L.length cap) W2 H2 M2 (.slice a2 K.length cap2) _›).1.out) hK1 hl2).mono ?_); rintro e w1 ⟨rfl, rfl⟩)))
  all_goals
    have hE := (show PPS W3 w.heap.size (w.heap.size + 1) W H M (.slice a L.length cap) W2 H2 M2 (.slice a2 K.length cap2) _ from ‹_›).1.out
    have hOp2 := hOp.below hE
    obtain ⟨⟨v0, o0, f0⟩, ⟨v1, o1, f1⟩, ⟨v2, o2, f2⟩, ⟨v3, o3, f3⟩⟩ := open_cells hOp2
    go_wp2_with fail
    rw [hO.out]
    refine ret_plane2 Try.results14 rfl rfl rfl hOp2 ⟨bput4 (bthen hB hE) (by omega) _ _ _ _, rfl⟩
end
end Go.Proofs.Ytpmajophkhihlaa
