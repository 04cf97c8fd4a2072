/- Subtract of the reference as a contract: the slice that it returns is new and holds the parts one after another. -/
import Derived.Test.YtbdedlmpcdelfaaRSub
import Derived.Test.YtbdedlmpcdelfaaRRInter
import Derived.BigQuiet
import Derived.Deep.QuietTactic
namespace Go.Proofs.Ytbdedlmpcdelfaa
open Go.ChangeShapes Go.WideShapes Go.ChangeAt Go.RowKit
set_option linter.unusedVariables false
set_option linter.unusedSimpArgs false

theorem rinter_is {a b c d a' b' c' d' p q r s : Int} (h : interR a b c d a' b' c' d' = ⟨p, q, r, s⟩) (w : World) : Calls Try.prog 30 #[.agg #[.int .i64 a, .int .i64 b, .int .i64 c, .int .i64 d], .agg #[.int .i64 a', .int .i64 b', .int .i64 c', .int .i64 d']] w
    fun e w' => e = .returned (.agg #[.int .i64 p, .int .i64 q, .int .i64 r, .int .i64 s]) ∧ Below w.heap.size w w' := by
  have := rinter_any a b c d a' b' c' d' w
  unfold RcPost at this
  rw [h] at this
  exact this
set_option maxRecDepth 100000 in
set_option maxHeartbeats 4000000 in
theorem rsub_any (a b c d a' b' c' d' : Int) (w : World) :
    Calls Try.prog 25 #[.agg #[.int .i64 a, .int .i64 b, .int .i64 c, .int .i64 d], .agg #[.int .i64 a', .int .i64 b', .int .i64 c', .int .i64 d']] w (SubPost (subL a b c d a' b' c' d') w) := by
  rcases hv : validB a b c d with _ | _
  · have hv' := Lib.hid hv
    go_enter Try.func25, Try.ntmps25
    go_wp2_with fail
    refine (rvalid_any _ _ _ _ _).mono ?_; rintro e w1 ⟨rfl, hb⟩; obtain ⟨hc, hf⟩ := bcell hb
    obtain ⟨z0, z1⟩ := sz2 hb
    go_wp2_with fail
    go_ret
    exact sub_nil (sub_u (.inl (full_vf hv'.out))) (bthen (balloc (balloc (bref w) _) _) hb)
  · rcases hu : validB a' b' c' d' with _ | _
    · have hv' := Lib.hid hv
      have hu' := Lib.hid hu
      go_enter Try.func25, Try.ntmps25
      go_wp2_with fail
      refine (rvalid_any _ _ _ _ _).mono ?_; rintro e w1 ⟨rfl, hb⟩; obtain ⟨hc, hf⟩ := bcell hb
      obtain ⟨z0, z1⟩ := sz2 hb
      go_wp2_with fail
      refine (rvalid_any _ _ _ _ _).mono ?_; rintro e w2 ⟨rfl, hb2⟩; obtain ⟨hc2, hf2⟩ := bcell hb2
      have y0 := bmore hb2 z0
      have y1 := bmore hb2 z1
      go_wp2_with fail
      go_ret
      exact sub_nil (sub_u (.inr hu'.out)) (bthen (bthen (balloc (balloc (bref w) _) _) hb) hb2)
    · rcases he : emptyB a b c d with _ | _
      · obtain ⟨p, q, r, s, hR⟩ : ∃ p q r s, interR a b c d a' b' c' d' = ⟨p, q, r, s⟩ := ⟨_, _, _, _, rfl⟩
        rcases hx : emptyB p q r s with _ | _
        · have he' := Lib.hid he
          have hv' := Lib.hid hv
          have hu' := Lib.hid hu
          have hR' := Lib.hid hR
          have hx' := Lib.hid hx
          clear hR
          go_enter Try.func25, Try.ntmps25
          go_wp2_with fail
          refine (rvalid_any _ _ _ _ _).mono ?_; rintro e w1 ⟨rfl, hb⟩; obtain ⟨hc, hf⟩ := bcell hb
          obtain ⟨z0, z1⟩ := sz2 hb
          go_wp2_with fail
          refine (rvalid_any _ _ _ _ _).mono ?_; rintro e w2 ⟨rfl, hb2⟩; obtain ⟨hc2, hf2⟩ := bcell hb2
          have y0 := bmore hb2 z0
          have y1 := bmore hb2 z1
          go_wp2_with fail
          refine (rempty_any _ _ _ _ _).mono ?_; rintro e w3 ⟨rfl, hb3⟩; obtain ⟨hc3, hf3⟩ := bcell hb3
          have x0 := bmore hb3 y0
          have x1 := bmore hb3 y1
          go_wp2_with fail
          refine (rinter_is hR'.out _).mono ?_; rintro e w4 ⟨rfl, hb4⟩; obtain ⟨hc4, hf4⟩ := bcell hb4
          have v0 := bmore hb4 x0
          have v1 := bmore hb4 x1
          go_wp2_with fail
          refine (rempty_any _ _ _ _ _).mono ?_; rintro e w5 ⟨rfl, hb5⟩; obtain ⟨hc5, hf5⟩ := bcell hb5
          have u0 : w.heap.size < w5.heap.size := by have := hb5.size; simp at this; omega
          have u1 : w.heap.size + 1 < w5.heap.size := by have := hb5.size; simp at this; omega
          have u4 := sz1 hb5
          go_wp2_with fail
          have hpart := Lib.hid (part_area (full_t hv'.out he'.out) hR'.out hx'.out)
          have hsub := Lib.hid (sub_p (full_t hv'.out he'.out) hu'.out hR'.out hx'.out)
          obtain ⟨i0, hi, hi0, hi1, hi2⟩ := info_parts info26
          have hi' := Lib.hid hi
          have hi0' := Lib.hid hi0
          have hi1' := Lib.hid hi1
          have hi2' := Lib.hid hi2
          have HB : Below w.heap.size w w5 := bthen (balloc (bthen (bthen (bthen (bthen (balloc (balloc (bref w) _) _) hb) hb2) hb3) hb4) _) hb5
          have hG : w.heap.size ≤ w5.heap.size := HB.size
          have H0 : SubInv w w5 w5.heap.size (partK a b c d ⟨p, q, r, s⟩) 0 [] (.slice none 0 0) (w5.alloc (.cells #[.int .i64 a, .int .i64 b, .int .i64 c, .int .i64 q, .int .i64 a, .int .i64 q, .int .i64 p, .int .i64 s, .int .i64 r, .int .i64 q, .int .i64 c, .int .i64 s, .int .i64 a, .int .i64 s, .int .i64 c, .int .i64 d] 26)) :=
            ⟨balloc HB _, World.ownsRow_nil _ _ _ _, four_new _ _ _ _ _ _ _ _ _, by simp⟩
          clear hi hi0 hi1 hi2 hc hf hc2 hf2 hc3 hf3 hc4 hf4 hc5 hf5 hb hb2 hb3 hb4 hb5 HB z0 z1 y0 y1 x0 x1 v0 v1 u0 u1 u4 he hv hu hx
          obtain ⟨WW, eWW⟩ : ∃ WW, WW = (w5.alloc (.cells #[.int .i64 a, .int .i64 b, .int .i64 c, .int .i64 q, .int .i64 a, .int .i64 q, .int .i64 p, .int .i64 s, .int .i64 r, .int .i64 q, .int .i64 c, .int .i64 s, .int .i64 a, .int .i64 s, .int .i64 c, .int .i64 d] 26)) := ⟨_, rfl⟩
          rw [← eWW] at H0 ⊢
          clear eWW
          go_loopw [6, 8] (fun v i wr => ∃ k : Nat, k ≤ 4 ∧ i = .int .i64 k ∧ SubInv w w5 w5.heap.size (partK a b c d ⟨p, q, r, s⟩) k (partsN a b c d ⟨p, q, r, s⟩ k) v wr) (fun _ i _ => 4 - (intOf i).toNat)
          case atStart => exact ⟨0, by omega, rfl, H0⟩
          case round =>
            clear H0
            obtain ⟨k, hk, rfl, HI⟩ := hrel
            by_cases hlt : k < 4
            · obtain ⟨k0, k1, k2, k3⟩ := HI.2.2.1 k hlt
              obtain ⟨⟨X0, Y0, X1, Y1⟩, hq⟩ : ∃ rr, partK a b c d ⟨p, q, r, s⟩ k = rr := ⟨_, rfl⟩
              have hq' := Lib.hid hq
              rw [hq] at k0 k1 k2 k3
              dsimp only at k0 k1 k2 k3
              clear hq
              have hkI : (k : Int) < 4 := by omega
              have HI' := Lib.hid HI
              clear HI
              by_cases p1 : X0 < X1
              · by_cases p2 : Y0 < Y1
                · have hP := Lib.hid (parts_t (a := a) (b := b) (c := c) (d := d) (m := ⟨p, q, r, s⟩) (n := k) (by rw [hq'.out]; simp [posB, p1, p2]))
                  have hL := parts_le a b c d ⟨p, q, r, s⟩ k
                  obtain ⟨L, hLL⟩ : ∃ L, partsN a b c d ⟨p, q, r, s⟩ k = L := ⟨_, rfl⟩
                  rw [hLL] at hL HI' hP
                  have hLL' := Lib.hid hLL
                  clear hLL
                  have d1 : decide (X0 < X1) = true := by simpa using p1
                  have d2 : decide (Y0 < Y1) = true := by simpa using p2
                  have hAl : w5.heap.size + 1 ≤ wr.heap.size := HI'.out.2.2.2
                  go_wp2_with fail
                  go_quiet (fail)
                  go_wp2_with (at_builtin; refine wpList_append_lies _ rfl _ _ _ rfl (w5.heap.size + 1) 26 i0 (.agg #[.int .i64 0, .int .i64 0, .int .i64 0, .int .i64 0]) 4 32 Try.underlying41 hi'.out hi0'.out hi1'.out hi2'.out rfl (by decide) u6 L.length (flat L) rfl ((subInv_step HI'.out (bdrewN (bref _) _)).2.1.alloc _) ⟨wr.heap.size, 0, none⟩ 1 1 (flat [⟨X0, Y0, X1, Y1⟩]) rfl rfl (World.news_of_block (heap_alloc_new _ _)) (by intro u hu; simp [flat] at hu; rcases hu with rfl | rfl | rfl | rfl <;> rfl) (by decide) (by unfold maxLen; omega) (by omega) (by simp; omega) (wr.heap.size + 1) (by simp) ?_; intro g cap wB hown hgrow hat hlB)
                  have HF := Lib.hid (subInv_app (subInv_step (subInv_step HI'.out (bdrewN (bref wr) _)) (balloc (bref _) _)) hG hown hgrow)
                  go_roundw
                  case rel => exact ⟨k + 1, by omega, by go_num, by rw [hP.out, hq'.out]; exact HF.out⟩
                  case measure => simp [intOf]; omega
                · have hP := Lib.hid (parts_f (a := a) (b := b) (c := c) (d := d) (m := ⟨p, q, r, s⟩) (n := k) (by rw [hq'.out]; simp [posB]; omega))
                  have d1 : decide (X0 < X1) = true := by simpa using p1
                  have d2 : decide (Y0 < Y1) = false := by simpa using p2
                  go_wp2_with fail
                  go_quiet (fail)
                  go_wp2_with fail
                  go_roundw
                  case rel => exact ⟨k + 1, by omega, by go_num, by rw [hP.out]; exact subInv_step HI'.out (bdrewN (bref wr) _)⟩
                  case measure => simp [intOf]; omega
              · have hP := Lib.hid (parts_f (a := a) (b := b) (c := c) (d := d) (m := ⟨p, q, r, s⟩) (n := k) (by rw [hq'.out]; simp [posB]; omega))
                have d1 : decide (X0 < X1) = false := by simpa using p1
                go_wp2_with fail
                go_quiet (fail)
                go_wp2_with fail
                go_roundw
                case rel => exact ⟨k + 1, by omega, by go_num, by rw [hP.out]; exact subInv_step HI'.out (bdrewN (bref wr) _)⟩
                case measure => simp [intOf]; omega
            · obtain rfl : k = 4 := by omega
              go_wp2_with fail
              go_ret
              exact ⟨_, rfl, by rw [hsub.out]; exact HI.2.1.mono (by omega), HI.1⟩
        · have he' := Lib.hid he
          have hv' := Lib.hid hv
          have hu' := Lib.hid hu
          have hR' := Lib.hid hR
          have hx' := Lib.hid hx
          clear hR
          go_enter Try.func25, Try.ntmps25
          go_wp2_with fail
          refine (rvalid_any _ _ _ _ _).mono ?_; rintro e w1 ⟨rfl, hb⟩; obtain ⟨hc, hf⟩ := bcell hb
          obtain ⟨z0, z1⟩ := sz2 hb
          go_wp2_with fail
          refine (rvalid_any _ _ _ _ _).mono ?_; rintro e w2 ⟨rfl, hb2⟩; obtain ⟨hc2, hf2⟩ := bcell hb2
          have y0 := bmore hb2 z0
          have y1 := bmore hb2 z1
          go_wp2_with fail
          refine (rempty_any _ _ _ _ _).mono ?_; rintro e w3 ⟨rfl, hb3⟩; obtain ⟨hc3, hf3⟩ := bcell hb3
          have x0 := bmore hb3 y0
          have x1 := bmore hb3 y1
          go_wp2_with fail
          refine (rinter_is hR'.out _).mono ?_; rintro e w4 ⟨rfl, hb4⟩; obtain ⟨hc4, hf4⟩ := bcell hb4
          have v0 := bmore hb4 x0
          have v1 := bmore hb4 x1
          go_wp2_with fail
          refine (rempty_any _ _ _ _ _).mono ?_; rintro e w5 ⟨rfl, hb5⟩; obtain ⟨hc5, hf5⟩ := bcell hb5
          have u0 : w.heap.size < w5.heap.size := by have := hb5.size; simp at this; omega
          have u1 : w.heap.size + 1 < w5.heap.size := by have := hb5.size; simp at this; omega
          have u4 := sz1 hb5
          go_wp2_with fail
          have HB : Below w.heap.size w w5 := bthen (balloc (bthen (bthen (bthen (bthen (balloc (balloc (bref w) _) _) hb) hb2) hb3) hb4) _) hb5
          have hsub := Lib.hid (sub_a (full_t hv'.out he'.out) hu'.out hR'.out hx'.out)
          go_ret
          exact ⟨_, rfl, by rw [hsub.out]; exact World.ownsRow_lit w5 #[.int .i64 a, .int .i64 b, .int .i64 c, .int .i64 d] 1 HB.size (by unfold maxLen; omega) rfl, balloc HB _⟩
      · have he' := Lib.hid he
        have hv' := Lib.hid hv
        have hu' := Lib.hid hu
        go_enter Try.func25, Try.ntmps25
        go_wp2_with fail
        refine (rvalid_any _ _ _ _ _).mono ?_; rintro e w1 ⟨rfl, hb⟩; obtain ⟨hc, hf⟩ := bcell hb
        obtain ⟨z0, z1⟩ := sz2 hb
        go_wp2_with fail
        refine (rvalid_any _ _ _ _ _).mono ?_; rintro e w2 ⟨rfl, hb2⟩; obtain ⟨hc2, hf2⟩ := bcell hb2
        have y0 := bmore hb2 z0
        have y1 := bmore hb2 z1
        go_wp2_with fail
        refine (rempty_any _ _ _ _ _).mono ?_; rintro e w3 ⟨rfl, hb3⟩; obtain ⟨hc3, hf3⟩ := bcell hb3
        go_wp2_with fail
        go_ret
        exact sub_nil (sub_u (.inl (full_ev he'.out))) (bthen (bthen (bthen (balloc (balloc (bref w) _) _) hb) hb2) hb3)
end Go.Proofs.Ytbdedlmpcdelfaa
