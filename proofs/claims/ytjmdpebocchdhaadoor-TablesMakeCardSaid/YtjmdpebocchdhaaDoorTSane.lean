/- The chapter's examples: the sanity check of layer 8 returns true; the world gets new blocks at most. -/
import Derived.Test.YtjmdpebocchdhaaDoorTKit
import Derived.Test.YtjmdpebocchdhaaDoorQuietIn
import Derived.Deep.DeepCutAuto
import Derived.Deep.DeepMust
namespace Go.Proofs.YtjmdpebocchdhaaDoor
open Go.ChangeShapes Go.WideShapes Go.ChangeAt Go.RowKit
set_option linter.unusedVariables false
set_option linter.unusedSimpArgs false

theorem fits_one {a : Option Addr} {c : Nat} : FitsLists [⟨a, c, [4607182418800017408]⟩] := by
  intro k hk
  obtain rfl : k = 0 := by simp at hk; omega
  intro j hj
  obtain rfl : j = 0 := by
    have : ([4607182418800017408] : List Int).length = 1 := rfl
    have hj' : j < ([4607182418800017408] : List Int).length := hj
    omega
  show 0 ≤ (4607182418800017408 : Int) ∧ (4607182418800017408 : Int) < 18446744073709551616
  decide
/-- the literals of the third example -/
theorem lits (w : World) : SliceIs (((w.alloc (.cells #[.int .i64 3] 3)).alloc (.cells #[.int .u64 4607182418800017408] 53)).alloc (.cells #[.slice (some ⟨w.heap.size + 1, 0, none⟩) 1 1] 42)) (some ⟨w.heap.size, 0, none⟩) [3] ∧
    ListsIs (((w.alloc (.cells #[.int .i64 3] 3)).alloc (.cells #[.int .u64 4607182418800017408] 53)).alloc (.cells #[.slice (some ⟨w.heap.size + 1, 0, none⟩) 1 1] 42)) (some ⟨w.heap.size + 1 + 1, 0, none⟩) [⟨some ⟨w.heap.size + 1, 0, none⟩, 1, [4607182418800017408]⟩] ∧
    Below w.heap.size w (((w.alloc (.cells #[.int .i64 3] 3)).alloc (.cells #[.int .u64 4607182418800017408] 53)).alloc (.cells #[.slice (some ⟨w.heap.size + 1, 0, none⟩) 1 1] 42)) := by
  obtain ⟨wA, eA⟩ : ∃ wA, w.alloc (.cells #[.int .i64 3] 3) = wA := ⟨_, rfl⟩
  have hs1 : wA.heap.size = w.heap.size + 1 := by rw [← eA]; simp
  have hA : wA.cell? ⟨w.heap.size, 0, none⟩ = some (.int .i64 3) := by rw [← eA, World.cell?_alloc_new]; rfl
  have hbA : Below w.heap.size w wA := by rw [← eA]; exact balloc (bref w) _
  rw [eA]
  obtain ⟨wB, eB⟩ : ∃ wB, wA.alloc (.cells #[.int .u64 4607182418800017408] 53) = wB := ⟨_, rfl⟩
  have hs2 : wB.heap.size = w.heap.size + 1 + 1 := by rw [← eB, ← hs1]; simp
  have hB : wB.cell? ⟨w.heap.size + 1, 0, none⟩ = some (.int .u64 4607182418800017408) := by rw [← eB, ← hs1, World.cell?_alloc_new]; rfl
  have hbB : Below wA.heap.size wA wB := by rw [← eB]; exact balloc (bref wA) _
  rw [eB]
  obtain ⟨wC, eC⟩ : ∃ wC, wB.alloc (.cells #[.slice (some ⟨w.heap.size + 1, 0, none⟩) 1 1] 42) = wC := ⟨_, rfl⟩
  have hC : wC.cell? ⟨w.heap.size + 1 + 1, 0, none⟩ = some (.slice (some ⟨w.heap.size + 1, 0, none⟩) 1 1) := by rw [← eC, ← hs2, World.cell?_alloc_new]; rfl
  have hbC : Below wB.heap.size wB wC := by rw [← eC]; exact balloc (bref wB) _
  rw [eC]
  refine ⟨fun k hk => ?_, fun k hk => ?_, bthen (bthen hbA hbB) hbC⟩
  · obtain rfl : k = 0 := by simp at hk; omega
    exact ⟨_, _, rfl, bkeep hbC (bkeep hbB hA)⟩
  · obtain rfl : k = 0 := by simp at hk; omega
    refine ⟨_, _, rfl, hC, fun j hj => ?_⟩
    obtain rfl : j = 0 := by
      have hj' : j < ([4607182418800017408] : List Int).length := hj
      have : ([4607182418800017408] : List Int).length = 1 := rfl
      omega
    exact ⟨_, _, rfl, bkeep hbC hB⟩
set_option maxRecDepth 100000 in
set_option maxHeartbeats 2000000 in
theorem sane_any (w : World) (hTab : TabZ w) : Calls Tryd.prog 15 #[] w (TestPost true w) := by
  have HB := Lib.hid (bref w)
  have HT := Lib.hid hTab
  clear hTab
  go_enter Tryd.func15, Tryd.ntmps15
  go_wp2_with fail
  refine (tbox_any 5 2 8 _).mono ?_; rintro e w1 ⟨v1, V1, rfl, hV1, hO1, hb⟩
  rw [ex_box.1] at hV1
  rw [ex_box.2]
  obtain ⟨g1, c1, rfl, hT1, hA1⟩ := tap_at hO1 hV1 (by decide)
  have HO1 := Lib.hid hT1
  have HV1 := Lib.hid hV1
  have HA1 := Lib.hid hA1
  have HB1 := Lib.hid (bthen HB.out hb)
  clear HB hb hO1 hV1 hA1 hT1
  go_wp2_with fail
  refine (tlin_any 2 4 8 _).mono ?_; rintro e w2 ⟨v2, V2, rfl, hV2, hO2, hb⟩
  rw [ex_lin.1] at hV2
  rw [ex_lin.2]
  obtain ⟨g2, c2, rfl, -, hA2⟩ := tap_at hO2 hV2 (by decide)
  have HA2 := Lib.hid hA2
  have HB2 := Lib.hid (bthen HB1.out hb)
  have HN2 := Lib.hid hb
  clear HB1 hb hO2 hV2 hA2
  go_wp2_with fail
  have HL := Lib.hid (lits w2)
  have HA3 := HL.out.1
  refine (tquant_any [3] [⟨some ⟨w2.heap.size + 1, 0, none⟩, 1, [4607182418800017408]⟩] 4 _ _ 1 1 1 1 _ HL.out.1 HL.out.2.1 fits_one rfl rfl (HT.out.below (bthen HB2.out HL.out.2.2))).mono ?_; rintro e w3 ⟨v3, V3, rfl, hV3, hO3, hb⟩
  rw [show List.map Uv.L [⟨some ⟨w2.heap.size + 1, 0, none⟩, 1, [4607182418800017408]⟩] = [[4607182418800017408]] from rfl] at hV3 ⊢
  rw [ex_quant.1] at hV3
  rw [ex_quant.2]
  obtain ⟨g3, c3, rfl, -, hA3⟩ := tap_at hO3 hV3 (by decide)
  have HN3 := Lib.hid (bthen HL.out.2.2 hb)
  have HB3 := Lib.hid (bthen HB2.out HN3.out)
  have HM := Lib.hid (bthen HN2.out HN3.out)
  have hT := Lib.hid (taps_below HO1.out HM.out)
  obtain ⟨-, ad1, k1, x1, s1⟩ := HA1.out 0 0 [103, 102, 51] rfl
  obtain ⟨b1, o1, rfl, y1⟩ := is_at s1 (by decide)
  obtain ⟨x2, ad2, k2, x3, s2⟩ := HA2.out 1 0 [192, 64] rfl
  obtain ⟨b2, o2, rfl, y2⟩ := is_at s2 (by decide)
  obtain ⟨x4, ad3, k3, x5, s3⟩ := hA3 0 3 [16] rfl
  obtain ⟨b3, o3, rfl, y3⟩ := is_at s3 (by decide)
  have z1 := bkeep HM.out x1
  have z2 := bkeep HM.out (y1 0 (by decide))
  have z3 := bkeep HM.out (y1 2 (by decide))
  have z4 := bkeep HN3.out x2
  have z5 := bkeep HN3.out x3
  have z6 := bkeep HN3.out (y2 0 (by decide))
  have z7 := x4
  have z8 := x5
  have z9 := y3 0 (by decide)
  clear hb hO3 hV3 hA3 HA1 HA2 HA3 HL x1 x2 x3 x4 x5 y1 y2 y3 s1 s2 s3 HB2 HN2 HN3 HM
  simp only [Nat.zero_mul, Nat.zero_add, Nat.one_mul, Nat.add_zero, List.getD_cons_zero, List.getD_cons_succ, List.length_cons, List.length_nil] at z1 z2 z3 z4 z5 z6 z7 z8 z9
  go_wp2_with fail
  refine (tvalid_any V1 5 _ _ 2 0 _ hT.out (by have := congrArg List.length HV1.out; simpa using this) (by decide) (by rw [HV1.out]; exact ex_valid)).mono ?_; rintro e w4 ⟨rfl, hb⟩
  have HB4 := Lib.hid (bthen HB3.out hb)
  clear hb z1 z2 z3 z4 z5 z6 z7 z8 z9
  go_wp2_with fail
  go_returns
  exact ⟨rfl, HB4.out⟩
theorem sane_is (W : World) (hTab : TabZ W) : Calls Tryd.prog 15 #[] W fun e w' => e = .returned (.bool true) ∧ Below W.heap.size W w' := sane_any W hTab
end Go.Proofs.YtjmdpebocchdhaaDoor
