/- Box of the package tables as a contract: the table, or the error; the world gets new blocks at most. -/
import Derived.Test.YtjmdpebocchdhaaDoorTWBox
namespace Go.Proofs.YtjmdpebocchdhaaDoor
open Go.ChangeShapes Go.WideShapes Go.ChangeAt Go.RowKit
set_option linter.unusedVariables false
set_option linter.unusedSimpArgs false

set_option maxRecDepth 100000 in
set_option maxHeartbeats 8000000 in
theorem wbox_in (n m s : Int) (T : List Tp) (C : Int) (w : World) (hn : 1 ≤ n ∧ n ≤ 128) (hm : 1 ≤ m ∧ m ≤ 128) (hs : 0 ≤ s ∧ s ≤ 14) (HT : Hid (boxT n m s = T)) (HC : Hid (boxC n m s = C)) : Calls Tryd.prog 17 #[.int .i64 n, .int .i64 m, .int .i64 s] w (TabPost T C w) := by
  have hmk0 : makeC n m s = 0 := by unfold makeC; rw [sideT_t.2 hn, sideT_t.2 hm, if_neg (by simp), if_neg (by omega)]
  have HMK := Lib.hid hmk0
  have HCE : Hid (boxC n m s = if boxOk n m m.toNat = true then 0 else 9) := Lib.hid (by unfold boxC; rw [hmk0, if_neg (by simp)])
  have hs2 : IntKind.u64.wrap s = s := IntWalk.u64_in _ (by omega)
  have hbN := Lib.hid (one_bd hs)
  have HW1 : Hid (wrap64 (2 ^ s.toNat) = one s) := Lib.hid (by have := one_bd hs; unfold one at *; exact w64 (by omega))
  obtain ⟨mm, emm⟩ : ∃ mm : Nat, m = mm := ⟨m.toNat, by omega⟩
  subst emm
  obtain ⟨A, hA, hmk⟩ := run_taps mm (by omega)
  have H0 := Lib.hid (MadeIn.start (w := w) (n := mm) (by omega) hA)
  have HNB := Lib.hid hn
  have HMB := Lib.hid hm
  obtain ⟨s0, s1⟩ := hs
  have hm0 : (0 : Int) ≤ mm ∧ (mm : Int) ≤ 128 := by omega
  clear hA hmk0 hn hm
  go_enter Tryd.func17, Tryd.ntmps17
  go_wp2_with fail
  refine (wsizes_is HMK.out _).mono ?_; rintro e w1 ⟨rfl, rfl⟩
  go_wp2_with fail
  obtain ⟨g, eg⟩ : ∃ g, w.heap.size = g := ⟨_, rfl⟩
  rw [eg] at H0
  rw [eg]
  clear eg
  go_loopw [24] (fun i wr => ∃ (k : Nat) (V : List Tv), k ≤ mm ∧ i = .int .i64 k ∧ Hid (boxOk n mm k = true) ∧ Hid (MadeIn w g mm (boxL n mm s k) V wr)) (fun i _ => mm - (intOf i).toNat)
  case atStart => exact ⟨0, _, by omega, rfl, Lib.hid rfl, H0⟩
  case round =>
    clear H0 hmk
    obtain ⟨k, V, hk, rfl, HOk, HI⟩ := hrel
    by_cases hlt : k < mm
    · have hkI : (k : Int) < mm := by omega
      have q20 : wrap64 ((k : Int) + 1) = (k : Int) + 1 := w64 (by omega)
      have hlt' := Lib.hid hlt
      have hsucc := Lib.hid (show k + 1 ≤ mm by omega)
      have htn := Lib.hid (show k < (mm : Int).toNat by omega)
      have HL := Lib.hid (boxL_len n mm s k)
      obtain ⟨A, B, F, q1, q2, q3, q4, q5, q6, q7, q8, q9, q10⟩ := box_wraps (n := n) (m := mm) (i := k) HNB.out HMB.out hkI
      obtain ⟨N, eN⟩ : ∃ N, boxN n mm k = N := ⟨_, rfl⟩
      have hPL := boxPs_len n mm k
      have hat : ∀ j, j < boxN n mm k → (boxPs n mm k).getD j 0 = boxP n mm k j := fun j hj => boxPs_at hj
      have HSum := Lib.hid (boxPs_sum (i := k) HNB.out HMB.out hkI)
      rw [eN] at q6 q7 q9 q10 hat hPL
      have EN := Lib.hid eN
      have HF := Lib.hid q8
      have HCom := Lib.hid (fun w => wcommon_any A B mm F N (boxPs n mm k) w HMB.out q4 q5 q7 hPL (fun j hj => by
        obtain ⟨KM, K1M, Q1, Q2, x, r1, r2, r3, r4, r5, r6, r7⟩ := q9 j hj
        exact ⟨KM, K1M, Q1, Q2, x, r1, r2, r3, r4, r5, r6, by rw [hat j hj]; exact r7⟩) q10)
      obtain ⟨PL, ePL⟩ : ∃ PL, boxPs n mm k = PL := ⟨_, rfl⟩
      rw [ePL] at hPL HCom HSum
      have EPL := Lib.hid ePL
      have HPL := Lib.hid hPL
      clear q8 q9 q10 eN ePL q3 q4 q5 q6 q7 hat hPL
      go_wp2_with fail
      refine (HCom.out _).mono ?_; rintro e w2 ⟨vp, rfl, hol, hb⟩
      have HI2 := Lib.hid (HI.out.below hb)
      obtain ⟨pa, pc, rfl, hps⟩ := hol.slice
      have HPS := Lib.hid hps
      rw [HPL.out]
      clear hol hps hb HI HCom
      by_cases h8 : (8 : Int) < N
      · have HZ := Lib.hid (show boxC n mm s = 9 by rw [HCE.out, boxOk_no htn.out (by rw [EN.out]; omega)]; rfl)
        have HBB := Lib.hid HI2.out.2.2.2.2.2
        go_wp2_with fail
        go_returns
        rw [← HC.out, HZ.out]
        exact tab_nil (by rw [← HT.out]; unfold boxT; rw [HZ.out]; rfl) HBB.out
      · have h8n : boxN n mm k ≤ 8 := by rw [EN.out]; omega
        have HOk2 := Lib.hid (boxOk_step HOk.out h8n)
        have HPO := Lib.hid (show PartsOk PL by rw [← EPL.out]; exact boxPs_ok HNB.out HMB.out hkI h8n)
        obtain ⟨S1, eS1⟩ : ∃ S1, one s = S1 := ⟨_, rfl⟩
        have hN1 : wrap64 (2 ^ s.toNat) = S1 := by rw [HW1.out, eS1]
        have hSb := Lib.hid (show 0 ≤ S1 ∧ S1 ≤ 16384 by have := hbN.out; rw [eS1] at this; exact ⟨Int.le_trans (by decide) this.1, this.2⟩)
        obtain ⟨D, eD⟩ : ∃ D, divL S1 PL = D := ⟨_, rfl⟩
        have ED := Lib.hid eD
        have HBT := Lib.hid (show boxL n mm s (k + 1) = boxL n mm s k ++ [⟨F, D⟩] by rw [boxL_step]; unfold boxTap; rw [HF.out, EPL.out, eS1, eD])
        clear h8n eS1 eD
        go_wp2_with fail
        refine (wdivide_l HPL.out ED.out HSum.out _ _ _ HPS.out HPO.out hSb.out).mono ?_; rintro e w5 ⟨q, c, rfl, hpx, hdl, hb5⟩
        have HI5 := Lib.hid (HI2.out.below hb5)
        have hgl2 := Lib.hid HI2.out.lt
        have hw2 := Lib.hid HI2.out.2.2.2.2.2.size
        have HPX := Lib.hid hpx
        have HDL := Lib.hid hdl
        have hcs := HI5.out.cells (by rw [HL.out]; exact hlt)
        rw [HL.out] at hcs
        obtain ⟨⟨c0, hc0⟩, ⟨c1, hc1⟩, hf0, hf1⟩ := hcs
        clear hpx hdl hb5 HI2 hN1 q1 q2
        go_wp2_with fail
        have HIn : Hid (MadeIn w g mm (boxL n mm s (k + 1)) (V.set k ⟨F, some ⟨q, 0, none⟩, c, D⟩) ((w5.setCell ⟨g, k * 2, none⟩ (.int .i64 F)).setCell ⟨g, k * 2 + 1, none⟩ (.slice (some ⟨q, 0, none⟩) N c))) := Lib.hid (by
          have h1 := HI5.out.set (t := ⟨F, some ⟨q, 0, none⟩, c, D⟩) (by rw [HL.out]; exact hlt) HPX.out.isS (fun b o s e => by
            cases e
            have l1 := HPX.out.lt
            have l2 := hgl2.out
            have l3 := hw2.out
            exact ⟨Nat.le_trans l3 l1.1, by omega, l1.2⟩)
          simp only [Tv.val] at h1
          rw [HL.out, HDL.out] at h1
          rw [HBT.out]
          exact h1)
        clear hc0 hc1 hf0 hf1
        go_roundw
        case rel => exact ⟨k + 1, _, hsucc.out, by go_num, HOk2, HIn⟩
        case measure => exact down_meas hlt'.out
    · obtain rfl : k = mm := by omega
      have HZ := Lib.hid (show boxC n (k : Int) s = 0 by rw [HCE.out, show ((k : Int)).toNat = k by omega, HOk.out]; rfl)
      go_wp2_with fail
      go_returns
      rw [← HC.out, HZ.out, ← HT.out]
      have e : boxT n (k : Int) s = boxL n k s k := by
        unfold boxT
        rw [HZ.out, if_pos rfl, show ((k : Int)).toNat = k by omega]
      rw [e]
      exact HI.out.done (boxL_len n k s k) 0
theorem wbox_any (n m s : Int) (w : World) : Calls Tryd.prog 17 #[.int .i64 n, .int .i64 m, .int .i64 s] w (TabPost (boxT n m s) (boxC n m s) w) := by
  by_cases h : makeC n m s = 0
  · rcases make_cases n m s with ⟨h1, hc⟩ | ⟨h1, h2, hc⟩ | ⟨h1, h2, h3, hc⟩ | ⟨h1, h2, h3, hc⟩ | ⟨h1, h2, h3, hc⟩
    iterate 4 (rw [hc] at h; exact absurd h (by decide))
    exact wbox_in n m s _ _ w (sideT_t.1 h1) (sideT_t.1 h2) h3 (Lib.hid rfl) (Lib.hid rfl)
  · have hC : boxC n m s = makeC n m s := by unfold boxC; rw [if_pos h]
    have HT := Lib.hid (show boxT n m s = [] by unfold boxT; rw [hC, if_neg h])
    rw [hC]
    obtain ⟨c, ec⟩ : ∃ c, makeC n m s = c := ⟨_, rfl⟩
    rw [ec] at h ⊢
    have EC := Lib.hid ec
    have hc0 : (c == 0) = false := by simpa using h
    clear ec hC
    go_enter Tryd.func17, Tryd.ntmps17
    go_wp2_with fail
    refine (wsizes_is EC.out _).mono ?_; rintro e w1 ⟨rfl, rfl⟩
    go_wp2_with fail
    go_returns
    exact tab_nil HT.out (bref _)
end Go.Proofs.YtjmdpebocchdhaaDoor
