/- The contract of the reference's At: the pixel of a valid plane at any place, by a valid edge; else 0. -/
import Derived.Test.YtpmajophkhihlaaPPixel
namespace Go.Proofs.Ytpmajophkhihlaa
open Go.ChangeShapes Go.WideShapes Go.ChangeAt Go.RowKit
set_option linter.unusedVariables false
set_option linter.unusedSimpArgs false

theorem rpvalid_is {W H M : Int} {L : List Int} {v : Bool} (h : planeB W H M L = v) (a : Option Addr) (cap : Nat) (w : World) (hs : SliceIs w a L) (hl : L.length ≤ 9223372036854775807) :
    Calls Try.prog 16 #[.agg #[.int .i64 W, .int .i64 H, .int .i64 M, .slice a L.length cap]] w (TestPost v w) := by
  rw [← h]; exact rpvalid_any W H M L a cap w hs hl
theorem redge_is' {q f m : Int} {v : Bool} (w : World) (h : edgeB q f m = v) : Calls Try.prog 46 #[.agg #[.int .i64 q, .int .i64 f], .int .i64 m] w (TestPost v w) := by
  rw [← h]; exact redge_any q f m w
set_option maxHeartbeats 1000000 in
theorem rat_any (W H M : Int) (L : List Int) (a : Option Addr) (cap : Nat) (q f x y : Int) (w : World) (hs : SliceIs w a L) (hl : L.length ≤ 9223372036854775807) (x0 : -9223372036854775808 ≤ x) (x1 : x ≤ 9223372036854775807) (y0 : -9223372036854775808 ≤ y) (y1 : y ≤ 9223372036854775807) :
    Calls Try.prog 27 #[.agg #[.int .i64 W, .int .i64 H, .int .i64 M, .slice a L.length cap], .agg #[.int .i64 q, .int .i64 f], .int .i64 x, .int .i64 y] w (NumPost (atN W H M L q f x y) w) := by
  have hs' := Lib.hid (is_below hs (balloc (balloc (bref w) (.cells #[.int .i64 W, .int .i64 H, .int .i64 M, .slice a L.length cap] 26)) (.cells #[.int .i64 q, .int .i64 f] 45)))
  clear hs
  rcases hv : planeB W H M L with _ | _
  · have hv' := Lib.hid hv
    have hN := Lib.hid (show 0 = atN W H M L q f x y by simp [atN, hv])
    clear hv
    go_enter Try.func27, Try.ntmps27
    go_wp2_with fail
    refine (rpvalid_is hv'.out _ _ _ hs'.out hl).mono ?_; rintro e w1 ⟨rfl, hb⟩
    go_wp2_with fail
    go_ret
    exact ⟨ret_int hN.out, bthen (balloc (balloc (bref _) _) _) hb⟩
  · have hv' := Lib.hid hv
    rcases he : edgeB q f M with _ | _
    · have he' := Lib.hid he
      have hN := Lib.hid (show 0 = atN W H M L q f x y by simp [atN, he])
      clear hv he
      go_enter Try.func27, Try.ntmps27
      go_wp2_with fail
      refine (rpvalid_is hv'.out _ _ _ hs'.out hl).mono ?_; rintro e w1 ⟨rfl, hb⟩
      obtain ⟨hc, hf⟩ := bcell hb
      obtain ⟨z0, z1⟩ := sz2 hb
      go_wp2_with fail
      refine (redge_is' _ he'.out).mono ?_; rintro e w2 ⟨rfl, hb2⟩
      go_wp2_with fail
      go_ret
      exact ⟨ret_int hN.out, bthen (bthen (balloc (balloc (bref _) _) _) hb) hb2⟩
    · have he' := Lib.hid he
      have hN := Lib.hid (show pixN W H L q f x y = atN W H M L q f x y by simp [atN, hv, he])
      clear hv he
      go_enter Try.func27, Try.ntmps27
      go_wp2_with fail
      refine (rpvalid_is hv'.out _ _ _ hs'.out hl).mono ?_; rintro e w1 ⟨rfl, hb⟩
      obtain ⟨hc, hf⟩ := bcell hb
      obtain ⟨z0, z1⟩ := sz2 hb
      have hs1 := Lib.hid (is_below hs'.out hb)
      go_wp2_with fail
      refine (redge_is' _ he'.out).mono ?_; rintro e w2 ⟨rfl, hb2⟩
      obtain ⟨hc2, hf2⟩ := bcell hb2
      have y2 := bmore hb2 z0
      have y3 := bmore hb2 z1
      have hs2 := Lib.hid (is_below hs1.out hb2)
      go_wp2_with fail
      refine (rpixel_any W H M L a cap q f x y _ hs2.out hv'.out x0 x1 y0 y1).mono ?_; rintro e w3 ⟨rfl, hb3⟩
      go_wp2_with fail
      go_ret
      exact ⟨ret_int hN.out, bthen (bthen (bthen (balloc (balloc (bref _) _) _) hb) hb2) hb3⟩
end Go.Proofs.Ytpmajophkhihlaa
