/- The chapter's examples: the sanity check of layer 6 returns true; the world gets new blocks at most. -/
import Derived.Test.YtnkiieiebldpoaaDoorEQuantB
import Derived.Test.YtnkiieiebldpoaaDoorFThird
import Derived.Test.YtnkiieiebldpoaaDoorQuietIn
namespace Go.Proofs.YtnkiieiebldpoaaDoor
open Go.ChangeShapes Go.WideShapes Go.ChangeAt Go.RowKit
set_option linter.unusedVariables false
set_option linter.unusedSimpArgs false

theorem ex_tenth : scaleN 4591870180066957722 10 = 102 ∧ scaleC 4591870180066957722 10 = 0 := by decide +kernel
theorem ex_half : scaleN 4602678819172646912 0 = 0 ∧ scaleC 4602678819172646912 0 = 0 := by decide +kernel
theorem ex_three : scaleN 4609434218613702656 0 = 2 ∧ scaleC 4609434218613702656 0 = 0 := by decide +kernel
theorem ex_quant : quantL 8 [4599676419421066581, 4599676419421066581, 4599676419421066581] = [86, 85, 85] ∧ quantC 8 [4599676419421066581, 4599676419421066581, 4599676419421066581] = 0 := by decide +kernel
theorem ex_parts : partM 13832806255468478464 = -3 ∧ partE 13832806255468478464 = -1 ∧ partB 13832806255468478464 = true := by decide +kernel
theorem ex_class : classN 9223372036854775808 = 0 := by decide +kernel
theorem in_lit {x : Int} (h0 : 0 ≤ x) (h1 : x < 18446744073709551616) : In64u x := ⟨h0, h1⟩
theorem quant_is {s c : Int} {L K : List Int} (hL : quantL s L = K) (hc : quantC s L = c) (a : Option Addr) (cap : Nat) (w : World) (hs : SliceU w a L) (hf : FitsU L) (hT : TabZ w) : Calls Tryd.prog 22 #[.slice a L.length cap, .int .i64 s] w (QuantPost K c w) := by
  have := quant_any s L a cap w hs hf hT
  rw [hL, hc] at this; exact this
set_option maxRecDepth 100000 in
set_option maxHeartbeats 2000000 in
theorem sane_any (w : World) (hT : TabZ w) : Calls Tryd.prog 16 #[] w (TestPost true w) := by
  have HT := Lib.hid hT
  have HB := Lib.hid (bref w)
  clear hT
  go_enter Tryd.func16, Tryd.ntmps16
  go_wp2_with fail
  refine (scale_is (in_lit (by decide) (by decide)) ex_tenth.1 ex_tenth.2 _ HT.out).mono ?_; rintro e w1 ⟨rfl, hb⟩
  have HB1 := Lib.hid (bthen HB.out hb)
  clear HB hb
  go_wp2_with fail
  have HB2 := Lib.hid (balloc HB1.out (.cells #[.int .u64 4599676419421066581, .int .u64 4599676419421066581, .int .u64 4599676419421066581] 23))
  have HS : Hid (SliceU (w1.alloc (.cells #[.int .u64 4599676419421066581, .int .u64 4599676419421066581, .int .u64 4599676419421066581] 23)) (some ⟨w1.heap.size, 0, none⟩) [4599676419421066581, 4599676419421066581, 4599676419421066581]) := Lib.hid (fun k hk => ⟨_, _, rfl, by
    rw [Nat.zero_add, World.cell?_alloc_new]
    simp at hk; rcases (show k = 0 ∨ k = 1 ∨ k = 2 by omega) with rfl | rfl | rfl <;> rfl⟩)
  have HF : Hid (FitsU [4599676419421066581, 4599676419421066581, 4599676419421066581]) := Lib.hid (by
    intro k hk; simp at hk; rcases (show k = 0 ∨ k = 1 ∨ k = 2 by omega) with rfl | rfl | rfl <;> simp [In64u])
  refine (quant_is ex_quant.1 ex_quant.2 _ _ _ HS.out HF.out (HT.out.below HB2.out)).mono ?_; rintro e w2 ⟨a, cap, rfl, hs, hb⟩
  have HB3 := Lib.hid (bthen HB2.out hb)
  have HS2 := Lib.hid hs
  clear HB1 HB2 HS HF hb hs
  go_wp2_with fail
  refine (scale_is (in_lit (by decide) (by decide)) ex_half.1 ex_half.2 _ (HT.out.below HB3.out)).mono ?_; rintro e w3 ⟨rfl, hb⟩
  have HB4 := Lib.hid (bthen HB3.out hb)
  have HS3 := Lib.hid (is_below HS2.out hb)
  clear HB3 HS2 hb
  go_wp2_with fail
  refine (scale_is (in_lit (by decide) (by decide)) ex_three.1 ex_three.2 _ (HT.out.below HB4.out)).mono ?_; rintro e w4 ⟨rfl, hb⟩
  have HB5 := Lib.hid (bthen HB4.out hb)
  have HS4 := Lib.hid (is_below HS3.out hb)
  clear HB4 HS3 hb
  go_wp2_with fail
  refine (parts_is (in_lit (by decide) (by decide)) ex_parts.1 ex_parts.2.1 ex_parts.2.2 _ (HT.out.below HB5.out)).mono ?_; rintro e w5 ⟨rfl, rfl⟩
  obtain ⟨b, off, ea, hc0⟩ := HS4.out 0 (by decide)
  obtain ⟨b1, off1, eb, hc1⟩ := HS4.out 1 (by decide)
  cases ea
  cases eb
  have hc0' : w4.cell? ⟨b, off, none⟩ = some (.int .i64 86) := by simpa using hc0
  have hc1' : w4.cell? ⟨b, off + 1, none⟩ = some (.int .i64 85) := hc1
  clear hc0 hc1 HS4
  go_wp2_with fail
  refine (class_is (in_lit (by decide) (by decide)) ex_class _).mono ?_; rintro e w6 ⟨rfl, rfl⟩
  go_wp2_with fail
  go_returns
  exact ⟨rfl, HB5.out⟩
theorem sane_is (W : World) (hT : TabZ W) : Calls Tryd.prog 16 #[] W fun e w' => e = .returned (.bool true) ∧ Below W.heap.size W w' := sane_any W hT
end Go.Proofs.YtnkiieiebldpoaaDoor
