/- Quantize of the package ieee as a contract: the list and the code; the world gets new blocks at most. -/
import Derived.Test.YtnkiieiebldpoaaDoorEQuant
namespace Go.Proofs.YtnkiieiebldpoaaDoor
open Go.ChangeShapes Go.WideShapes Go.ChangeAt Go.RowKit
set_option linter.unusedVariables false
set_option linter.unusedSimpArgs false

theorem quant_out (s : Int) (L : List Int) (a : Option Addr) (cap : Nat) (w : World) (h : s < 0 ∨ 24 < s) : Calls Tryd.prog 22 #[.slice a L.length cap, .int .i64 s] w (QuantPost (quantL s L) (quantC s L) w) := by
  have HC := Lib.hid (quant_range (L := L) h)
  have HO := Lib.hid (show decide (0 ≤ s ∧ s ≤ 24) = false by simp; omega)
  clear h
  go_enter Tryd.func22, Tryd.ntmps22
  go_wp2_with fail
  refine (shiftOk_is HO.out _).mono ?_; rintro e' w' ⟨rfl, rfl⟩
  go_wp2_with fail
  go_returns
  exact quant_nil s L rfl HC.out (by omega) (bref _)
theorem quant_lens (s : Int) (L : List Int) (a : Option Addr) (cap : Nat) (w : World) (h : 0 ≤ s ∧ s ≤ 24) (hl : L.length = 0 ∨ 8 < L.length) : Calls Tryd.prog 22 #[.slice a L.length cap, .int .i64 s] w (QuantPost (quantL s L) (quantC s L) w) := by
  have HC := Lib.hid (quant_len (L := L) h hl)
  have HO := Lib.hid (show decide (0 ≤ s ∧ s ≤ 24) = true by simp; omega)
  obtain ⟨n, en⟩ : ∃ n, L.length = n := ⟨_, rfl⟩
  rw [en] at hl ⊢
  clear en h
  rcases hl with rfl | hl
  all_goals
    (try (have hn0 : ((n : Int) == 0) = false := by simp; omega))
    (try (have hnI : (8 : Int) < n := by omega))
    go_enter Tryd.func22, Tryd.ntmps22
    go_wp2_with fail
    refine (shiftOk_is HO.out _).mono ?_; rintro e' w' ⟨rfl, rfl⟩
    go_wp2_with fail
    go_returns
    exact quant_nil s L rfl HC.out (by omega) (bref _)
theorem qin_below {w wr w1 : World} {s : Int} {L : List Int} {g cap : Nat} {a : Option Addr} {k : Nat} (h : QIn w s L g cap a k wr) (hb : Below wr.heap.size wr w1) : QIn w s L g cap a k w1 :=
  ⟨bthen h.1 hb, h.2.1.below hb, isu_below h.2.2.1 hb, h.2.2.2⟩
set_option maxRecDepth 100000 in
set_option maxHeartbeats 4000000 in
theorem quant_in (s : Int) (L : List Int) (a : Option Addr) (cap : Nat) (w : World) (hs : SliceU w a L) (hf : FitsU L) (h : 0 ≤ s ∧ s ≤ 24) (hl : 1 ≤ L.length ∧ L.length ≤ 8) (hT : TabZ w) : Calls Tryd.prog 22 #[.slice a L.length cap, .int .i64 s] w (QuantPost (quantL s L) (quantC s L) w) := by
  obtain ⟨n, en⟩ : ∃ n, L.length = n := ⟨_, rfl⟩
  have hn : 1 ≤ n ∧ n ≤ 8 := by omega
  obtain ⟨A, hA, hmk⟩ := run_zeros n (by omega)
  have hA' := Lib.hid hA
  have En := Lib.hid en
  have H := Lib.hid h
  have HL := Lib.hid hl
  have HF := Lib.hid hf
  have HA := Lib.hid hs
  have HT := Lib.hid hT
  have HO := Lib.hid (show decide (0 ≤ s ∧ s ≤ 24) = true by simp; omega)
  have H0 : Hid (QIn w s L w.heap.size n a 0 (w.alloc (.cells A 3))) := Lib.hid (by
    refine ⟨balloc (bref _) _, ?_, isu_below hs (balloc (bref _) _), by simp⟩
    have hr := row_new w (List.replicate n 0)
    rw [← hA] at hr
    have := RowIs.pix (base := w.heap.size) hr (Nat.le_refl _) (by simp [maxLen]; omega)
    rw [partL_zero, outs_len, en]
    simpa using this)
  have hnI : (1 : Int) ≤ n ∧ (n : Int) ≤ 8 := by omega
  have hn0 : ((n : Int) == 0) = false := by simp; omega
  have bP := pow_bd h
  obtain ⟨P, eP⟩ : ∃ P : Int, 2 ^ s.toNat = P := ⟨_, rfl⟩
  rw [eP] at bP
  have hP2 : Hid (wrap64 (2 ^ s.toNat) = P) := Lib.hid (by rw [eP]; exact wrap_small bP.1 bP.2)
  have EP := Lib.hid eP
  obtain ⟨h0, h1⟩ := h
  rw [en]
  clear hA en hs hf hl eP hT
  go_enter Tryd.func22, Tryd.ntmps22
  go_wp2_with fail
  refine (shiftOk_is HO.out _).mono ?_; rintro e' w' ⟨rfl, rfl⟩
  go_wp2_with fail
  go_loopw [7, 31] (fun t i wr => ∃ (k : Nat) (T : Int), k ≤ n ∧ i = .int .i64 k ∧ t = .int .i64 (P - T) ∧ (-(32767 * (k : Int)) ≤ T ∧ T ≤ 32767 * k) ∧ Hid (T = ((outs s L).take k).sum) ∧ Hid (QIn w s L w.heap.size n a k wr)) (fun _ i _ => n - (intOf i).toNat)
  case atStart => exact ⟨0, 0, by omega, rfl, by rw [hP2.out]; simp, by omega, Lib.hid (by simp), H0⟩
  case round =>
    clear H0
    obtain ⟨k, T, hk, rfl, rfl, bT, HTS, HI⟩ := hrel
    by_cases hlt : k < n
    · have hkL : k < L.length := by rw [En.out]; exact hlt
      obtain ⟨b, off, rfl, hcell⟩ := HI.out.2.2.1 k hkL
      obtain ⟨x, ex⟩ : ∃ x, L.getD k 0 = x := ⟨_, rfl⟩
      rw [ex] at hcell
      have HX := Lib.hid (show In64u x by rw [← ex]; exact HF.out k hkL)
      have Ex := Lib.hid ex
      obtain ⟨N, eN⟩ : ∃ N, scaleN x s = N := ⟨_, rfl⟩
      obtain ⟨c, ec⟩ : ∃ c, scaleC x s = c := ⟨_, rfl⟩
      have bN := scale_bd x s
      rw [eN] at bN
      have EN := Lib.hid eN
      have EC := Lib.hid ec
      have hkI : (k : Int) < n := by omega
      have HTw : Hid (TabZ wr) := Lib.hid (HT.out.below HI.out.1)
      clear ex eN ec hkL
      by_cases hc : c = 0
      · subst hc
        go_wp2_with fail
        refine (scale_is HX.out EN.out EC.out _ HTw.out).mono ?_; rintro e w1 ⟨rfl, hb⟩
        have HI1 := Lib.hid (qin_below HI.out hb)
        clear HI hb hcell HTw
        have hpl : (partL (outs s L) k).length = n := by rw [partL_len (by rw [outs_len, En.out]; omega), outs_len, En.out]
        have kc := HI1.out.2.1.cell (k := k) (by rw [hpl]; exact hlt)
        have kf := HI1.out.2.1.frozen k
        obtain ⟨V0, eV0⟩ : ∃ V0, (partL (outs s L) k).getD k 0 = V0 := ⟨_, rfl⟩
        rw [eV0] at kc
        have hkI0 : (0 : Int) ≤ k := by omega
        have HI2 := Lib.hid (q_store HI1.out (by rw [En.out]; exact hlt) HA.out (by rw [Ex.out, EN.out]) (by rw [Ex.out, EC.out]))
        have hNk : (outs s L).getD k 0 = N := by rw [outs_at s L (by rw [En.out]; exact hlt), Ex.out, EN.out]
        have HT2 : Hid (T + N = ((outs s L).take (k + 1)).sum) := Lib.hid (by rw [sum_take (by rw [outs_len, En.out]; exact hlt), ← HTS.out, hNk])
        have hTN : P - T - N = P - (T + N) := by omega
        have HTN := Lib.hid hTN
        clear eV0 hpl HI1 hNk HTS hTN
        go_wp2_with fail
        go_roundw
        case rel => exact ⟨k + 1, T + N, by omega, by go_num, by rw [HTN.out], by omega, HT2, HI2⟩
        case measure => simp [intOf]; omega
      · have HE : Hid (quantC s L = c) := Lib.hid (by
          have e1 : errTo s L = c := by rw [HI.out.2.2.2, err_stop (by rw [En.out]; exact hlt) (by rw [Ex.out, EC.out]; exact hc), Ex.out, EC.out]
          rw [quant_err H.out HL.out (by rw [e1]; exact hc), e1])
        have hc0 : (c == 0) = false := by simpa using hc
        have HB := Lib.hid HI.out.1
        clear HI HTS
        go_wp2_with fail
        refine (scale_is HX.out EN.out EC.out _ HTw.out).mono ?_; rintro e w1 ⟨rfl, hb⟩
        have HB2 := Lib.hid (bthen HB.out hb)
        clear hb
        go_wp2_with fail
        go_returns
        exact quant_nil s L rfl HE.out hc HB2.out
    · obtain rfl : k = n := by omega
      have hOl : (outs s L).length = k := by rw [outs_len, En.out]
      have hpE : partL (outs s L) k = outs s L := by rw [← hOl]; exact partL_end _
      have hHE := HI.out
      unfold QIn at hHE
      rw [hpE] at hHE
      have he0 : errTo s L = 0 := by rw [hHE.2.2.2, List.drop_eq_nil_of_le (by rw [En.out]; omega)]; rfl
      have HP := Lib.hid hHE.2.1
      have HB := Lib.hid hHE.1
      obtain ⟨q, eq⟩ : ∃ q, bestAt (outs s L) k = q := ⟨_, rfl⟩
      have hqk : q < k := by have := best_lt (outs s L) k; omega
      have bV := outs_bd s L q
      obtain ⟨V, eV⟩ : ∃ V, (outs s L).getD q 0 = V := ⟨_, rfl⟩
      have hbv : bestV (outs s L) k = V := by unfold bestV; rw [eq, eV]
      have hfst : ∀ j, j < q → (outs s L).getD j 0 < V := by
        intro j hj
        rw [← hbv]; exact best_first _ k j (by rw [eq]; exact hj)
      rw [eV] at bV
      have hS : (outs s L).sum = T := by rw [HTS.out, ← hOl, List.take_length]
      have hC : corr s L = P - T := by unfold corr; rw [EP.out, hS]
      obtain ⟨C, eC⟩ : ∃ C, P - T = C := ⟨_, rfl⟩
      rw [eC] at hC ⊢
      have bC : -262136 ≤ C ∧ C ≤ 17039352 := by omega
      have hM : topN s L = V + C := by unfold topN; rw [hC, En.out, eq, eV]
      have HOl := Lib.hid hOl
      have HC := Lib.hid hC
      have HM := Lib.hid hM
      have HE0 := Lib.hid he0
      have HQ2 := Lib.hid eq
      have HFst := Lib.hid hfst
      have HBv := Lib.hid hbv
      have HV := Lib.hid eV
      have hqI : (q : Int) < k := by omega
      have hqI0 : (0 : Int) ≤ q := by omega
      clear hHE hpE HI HTS hS hC hM eV he0 hOl hlt eq hfst hbv eC bT
      by_cases hD : (k : Int) < C ∨ C < -(k : Int)
      · have HX := Lib.hid (quant_weight H.out HL.out HE0.out (by rw [En.out, HC.out]; exact hD))
        rcases hD with hD | hD
        all_goals
          go_wp2_with fail
          go_returns
          exact quant_nil s L rfl HX.out (by omega) HB.out
      · have hw : -(k : Int) ≤ C ∧ C ≤ (k : Int) := by omega
        obtain ⟨hw1, hw2⟩ := hw
        obtain ⟨M, eM⟩ : ∃ M, V + C = M := ⟨_, rfl⟩
        have bM : -40000 ≤ M ∧ M ≤ 40000 := by omega
        have HM2 : Hid (topN s L = M) := Lib.hid (by rw [HM.out, eM])
        have HW : Hid (-(L.length : Int) ≤ corr s L ∧ corr s L ≤ (L.length : Int)) := Lib.hid (by rw [En.out, HC.out]; exact ⟨hw1, hw2⟩)
        clear hD HM
        have HVM : Hid (Calls Tryd.prog 37 #[.slice (some ⟨w.heap.size, 0, none⟩) k k] wr fun e w' => e = .returned (.int .i64 V) ∧ wr = w') := Lib.hid (by
          have := vmax_any (outs s L) (some ⟨w.heap.size, 0, none⟩) k wr HP.out.isS (by rw [HOl.out]; omega) (by rw [HOl.out]; omega)
          rw [HOl.out, HBv.out] at this; exact this)
        have HVI : Hid (Calls Tryd.prog 36 #[.slice (some ⟨w.heap.size, 0, none⟩) k k, .int .i64 V] wr fun e w' => e = .returned (.int .i64 q) ∧ Below wr.heap.size wr w') := Lib.hid (by
          have := vindex_any (outs s L) (some ⟨w.heap.size, 0, none⟩) k q V wr HP.out.isS (by rw [HOl.out]; exact hqk) (by rw [HOl.out]; omega) HV.out HFst.out
          rw [HOl.out] at this; exact this)
        go_wp2_with fail
        refine HVM.out.mono ?_; rintro e w1 ⟨rfl, rfl⟩
        go_wp2_with fail
        refine HVI.out.mono ?_; rintro e w1 ⟨rfl, hb⟩
        have HP1 := Lib.hid (HP.out.below hb)
        have HB1 := Lib.hid (bthen HB.out hb)
        clear HP HB hb HVM HVI
        have kc := HP1.out.cell (k := q) (by rw [HOl.out]; exact hqk)
        rw [HV.out] at kc
        have kf := HP1.out.frozen q
        have hst := HP1.out.store q M
        have kc2 := hst.1.cell (k := q) (by rw [List.length_set, HOl.out]; exact hqk)
        have e2 : ((outs s L).set q M).getD q 0 = M := by rw [List.getD_eq_getElem?_getD, List.getElem?_set_self (by rw [HOl.out]; exact hqk)]; rfl
        rw [e2] at kc2
        have HS := Lib.hid hst.1
        have HB2 := Lib.hid (show Below w.heap.size w (w1.setCell ⟨w.heap.size, q, none⟩ (.int .i64 M)) from HB1.out.setCell (Nat.le_refl _) _)
        clear hst e2
        go_upto_region 20 with fail
        obtain ⟨wz, ewz⟩ : ∃ wz, w1.setCell ⟨w.heap.size, q, none⟩ (.int .i64 M) = wz := ⟨_, rfl⟩
        rw [ewz] at kc2 HS HB2
        simp only [ewz]
        clear ewz kc kf eM
        by_cases g : -32767 ≤ M ∧ M ≤ 32767
        · have HX := Lib.hid (quant_ok H.out HL.out HE0.out HW.out (by rw [HM2.out]; exact g))
          have HWO := Lib.hid (show decide (-32767 ≤ M ∧ M ≤ 32767) = true by simpa using g)
          go_wp2_with fail
          refine (weightOk_is HWO.out _).mono ?_; rintro e w2 ⟨rfl, rfl⟩
          go_wp2_with fail
          go_returns
          have hlen : ((outs s L).set q M).length = k := by rw [List.length_set, HOl.out]
          rw [HX.out.1, HX.out.2, En.out, HQ2.out, HM2.out]
          refine ⟨some ⟨w.heap.size, 0, none⟩, k, ?_, HS.out.isS, HB2.out⟩
          rw [hlen]; rfl
        · have HX := Lib.hid (quant_over H.out HL.out HE0.out HW.out (by rw [HM2.out]; omega))
          have HWO := Lib.hid (show decide (-32767 ≤ M ∧ M ≤ 32767) = false by rw [decide_eq_false_iff_not]; exact g)
          go_wp2_with fail
          refine (weightOk_is HWO.out _).mono ?_; rintro e w2 ⟨rfl, rfl⟩
          go_wp2_with fail
          go_returns
          exact quant_nil s L rfl HX.out (by omega) HB2.out
/-- Quantize, at every list and shift -/
theorem quant_any (s : Int) (L : List Int) (a : Option Addr) (cap : Nat) (w : World) (hs : SliceU w a L) (hf : FitsU L) (hT : TabZ w) : Calls Tryd.prog 22 #[.slice a L.length cap, .int .i64 s] w (QuantPost (quantL s L) (quantC s L) w) := by
  by_cases h : s < 0 ∨ 24 < s
  · exact quant_out s L a cap w h
  · by_cases hl : L.length = 0 ∨ 8 < L.length
    · exact quant_lens s L a cap w (by omega) hl
    · exact quant_in s L a cap w hs hf (by omega) (by omega) hT
end Go.Proofs.YtnkiieiebldpoaaDoor
