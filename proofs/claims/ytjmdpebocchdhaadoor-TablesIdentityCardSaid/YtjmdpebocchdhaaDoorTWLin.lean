/- Linear of the package tables as a contract: the table that it makes, or the error; the world gets new blocks at most. -/
import Derived.Test.YtjmdpebocchdhaaDoorTWMade
import Derived.Test.YtjmdpebocchdhaaDoorTWValid
import Derived.Deep.DeepCutAuto
namespace Go.Proofs.YtjmdpebocchdhaaDoor
open Go.ChangeShapes Go.WideShapes Go.ChangeAt Go.RowKit
set_option linter.unusedVariables false
set_option linter.unusedSimpArgs false

theorem linL_take (n m s : Int) (k : Nat) : linL n m s (k + 1) = linL n m s k ++ [linTap n m s k] := linL_step n m s k
set_option maxRecDepth 100000 in
set_option maxHeartbeats 4000000 in
theorem wlinear_in (n m s : Int) (w : World) (hn : 1 ≤ n ∧ n ≤ 128) (hm : 1 ≤ m ∧ m ≤ 128) (hs : 0 ≤ s ∧ s ≤ 14) : Calls Tryd.prog 19 #[.int .i64 n, .int .i64 m, .int .i64 s] w (TabPost (linT n m s) 0 w) := by
  have hmk0 : makeC n m s = 0 := by unfold makeC; rw [sideT_t.2 hn, sideT_t.2 hm, if_neg (by simp), if_neg (by omega)]
  have HMK := Lib.hid hmk0
  have HT : Hid (linT n m s = linL n m s m.toNat) := Lib.hid (by unfold linT; rw [if_pos hmk0])
  have hs2 : IntKind.u64.wrap s = s := IntWalk.u64_in _ (by omega)
  obtain ⟨mm, emm⟩ : ∃ mm : Nat, m = mm := ⟨m.toNat, by omega⟩
  subst emm
  obtain ⟨A, hA, hmk⟩ := run_taps mm (by omega)
  have H0 := Lib.hid (MadeIn.start (w := w) (n := mm) (by omega) hA)
  obtain ⟨n0, n1⟩ := hn
  obtain ⟨s0, s1⟩ := hs
  have hm0 : (0 : Int) ≤ mm ∧ (mm : Int) ≤ 128 := by omega
  clear hA hmk0
  go_enter Tryd.func19, Tryd.ntmps19
  go_wp2_with fail
  refine (wsizes_is HMK.out _).mono ?_; rintro e w1 ⟨rfl, rfl⟩
  go_wp2_with fail
  obtain ⟨g, eg⟩ : ∃ g, w.heap.size = g := ⟨_, rfl⟩
  rw [eg] at H0
  rw [eg]
  clear eg
  go_loopw [26] (fun i wr => ∃ (k : Nat) (V : List Tv), k ≤ mm ∧ i = .int .i64 k ∧ Hid (MadeIn w g mm (linL n mm s k) V wr)) (fun i _ => mm - (intOf i).toNat)
  case atStart => exact ⟨0, _, by omega, rfl, H0⟩
  case round =>
    clear H0 hmk
    obtain ⟨k, V, hk, rfl, HI⟩ := hrel
    by_cases hlt : k < mm
    · have hkI : (k : Int) < mm := by omega
      have q20 : wrap64 ((k : Int) + 1) = (k : Int) + 1 := w64 (by omega)
      obtain ⟨A0, A1, A, X, D, Q, K, r, SH, RD, W, V1, N1, q1, q2, q3, q4, q5, q6, q7, q8, q9, q10, q11, q12, q13, q14, q15, hD0, eT⟩ := wlin_wraps (n := n) (m := mm) (s := s) (i := k) ⟨n0, n1⟩ hm ⟨s0, s1⟩ hkI
      have ET2 := Lib.hid (show linL n mm s (k + 1) = linL n mm s k ++ [⟨K, [V1, W]⟩] by rw [linL_step, eT])
      have HL := Lib.hid (linL_len n mm s k)
      have e0 : 2 * (k : Int) = A0 := by rw [← q1]; exact (w64 (by omega)).symm
      have e1 : A0 + 1 = A1 := by rw [← q2]; exact (w64 (by omega)).symm
      have e5 : 2 * (mm : Int) = D := by rw [← q5]; exact (w64 (by omega)).symm
      rw [← e1, ← e0] at q3
      rw [← e5] at q6 q9 q13
      clear eT hm q1 q2 q5 e0 e1 e5 hD0 A0 A1
      go_wp2_with fail
      go_quiet (fail)
      go_upto_region 11 with fail
      have hI1 := HI.out.below (bdrewN (bref wr) nq)
      obtain ⟨wd, ewd⟩ : ∃ wd, wr.drewN nq = wd := ⟨_, rfl⟩
      rw [ewd] at hI1
      rw [ewd]
      have HI1 := Lib.hid hI1
      have hcs := HI1.out.cells (by rw [HL.out]; exact hlt)
      rw [HL.out] at hcs
      obtain ⟨⟨c0, hc0⟩, ⟨c1, hc1⟩, hf0, hf1⟩ := hcs
      have hgl := HI1.out.lt
      obtain ⟨b, eb⟩ : ∃ b, wd.heap.size = b := ⟨_, rfl⟩
      have hgb : g < b := by rw [← eb]; exact hgl
      have EB := Lib.hid eb
      have ka0 : (wd.alloc (.cells #[.int .i64 V1, .int .i64 W] 3)).cell? ⟨g, k * 2, none⟩ = some c0 := bkeep (balloc (bref wd) _) hc0
      have ka1 : (wd.alloc (.cells #[.int .i64 V1, .int .i64 W] 3)).cell? ⟨g, k * 2 + 1, none⟩ = some c1 := bkeep (balloc (bref wd) _) hc1
      clear ewd hI1 HI eb
      go_wp2_with fail
      have HIn : Hid (MadeIn w g mm (linL n mm s (k + 1)) (V.set k ⟨K, some ⟨wd.heap.size, 0, none⟩, 2, [V1, W]⟩) ((((wd.setCell ⟨g, k * 2, none⟩ (.int .i64 K)).setCell ⟨g, k * 2 + 1, none⟩ (.slice (some ⟨wd.heap.size, 0, none⟩) 2 2)).alloc (.cells #[.int .i64 V1, .int .i64 W] 3)))) := Lib.hid (by
        have hB := balloc (bref wd) (.cells #[.int .i64 V1, .int .i64 W] 3)
        have h1 := (HI1.out.below hB).set (t := ⟨K, some ⟨wd.heap.size, 0, none⟩, 2, [V1, W]⟩) (by rw [HL.out]; exact hlt) (fun j hj => ⟨_, _, rfl, by
          rw [Nat.zero_add, World.cell?_alloc_new]
          simp at hj; rcases (show j = 0 ∨ j = 1 by omega) with rfl | rfl <;> rfl⟩) (fun b o s e => by cases e; exact ⟨HI1.out.2.2.2.2.2.size, Nat.ne_of_lt hgl, by simp⟩)
        rw [HL.out] at h1
        rw [ET2.out]
        rw [World.setCell_alloc_past _ _ _ _ hgl, World.setCell_alloc_past _ _ _ _ (by simpa using hgl)] at h1
        exact h1)
      clear ka0 ka1
      clear hc0 hc1 hf0 hf1 hgl q3 q4 q6 q7 q8 q9 q10 q11 q12 q13 q14 q15
      go_roundw
      case rel => exact ⟨k + 1, _, by omega, by go_num, HIn⟩
      case measure => exact down_meas hlt
    · obtain rfl : k = mm := by omega
      go_wp2_with fail
      go_returns
      rw [HT.out, show ((k : Int)).toNat = k by omega]
      exact HI.out.done (linL_len n k s k) 0
theorem wlinear_any (n m s : Int) (w : World) : Calls Tryd.prog 19 #[.int .i64 n, .int .i64 m, .int .i64 s] w (TabPost (linT n m s) (makeC n m s) w) := by
  by_cases h : makeC n m s = 0
  · rcases make_cases n m s with ⟨h1, hc⟩ | ⟨h1, h2, hc⟩ | ⟨h1, h2, h3, hc⟩ | ⟨h1, h2, h3, hc⟩ | ⟨h1, h2, h3, hc⟩
    iterate 4 (rw [hc] at h; exact absurd h (by decide))
    rw [hc]
    exact wlinear_in n m s w (sideT_t.1 h1) (sideT_t.1 h2) h3
  · have HT := Lib.hid (show linT n m s = [] by unfold linT; rw [if_neg h])
    obtain ⟨c, ec⟩ : ∃ c, makeC n m s = c := ⟨_, rfl⟩
    rw [ec] at h ⊢
    have EC := Lib.hid ec
    have hc0 : (c == 0) = false := by simpa using h
    clear ec
    go_enter Tryd.func19, Tryd.ntmps19
    go_wp2_with fail
    refine (wsizes_is EC.out _).mono ?_; rintro e w1 ⟨rfl, rfl⟩
    go_wp2_with fail
    go_returns
    exact tab_nil HT.out (bref _)
end Go.Proofs.YtjmdpebocchdhaaDoor
