/- Quantized of the package tables as a contract: the table, or the error; the world gets new blocks at most. -/
import Derived.Test.YtjmdpebocchdhaaDoorTWMade
import Derived.Test.YtjmdpebocchdhaaDoorTWValid
import Derived.Test.YtjmdpebocchdhaaDoorTQuant
import Derived.Test.YtjmdpebocchdhaaDoorEBits
namespace Go.Proofs.YtjmdpebocchdhaaDoor
open Go.ChangeShapes Go.WideShapes Go.ChangeAt Go.RowKit
set_option linter.unusedVariables false
set_option linter.unusedSimpArgs false

theorem wq_l {s c : Int} {L K : List Int} {l : Nat} (hL : quantL s L = K) (hc : quantC s L = c) (e : L.length = l) (a : Option Addr) (cap : Nat) (w : World) (hs : SliceU w a L) (hf : FitsU L) (hT : TabZ w) : Calls Tryd.prog 36 #[.slice a l cap, .int .i64 s] w (QuantPost K c w) := by
  subst e
  have := quant_any s L a cap w hs hf hT
  rw [hL, hc] at this; exact this
set_option maxRecDepth 100000 in
set_option maxHeartbeats 4000000 in
theorem wquant_in (fs : List Int) (U : List Uv) (s : Int) (a b : Option Addr) (cap cap' : Nat) (w : World) (hfs : SliceIs w a fs) (hU : ListsIs w b U) (hF : FitsLists U) (hlen : fs.length = U.length) (hside : sideT U.length = true) (hT : TabZ w) :
    Calls Tryd.prog 23 #[.slice a fs.length cap, .slice b U.length cap', .int .i64 s] w (TabPost (if errQ s (pairs fs (U.map Uv.L)) = 0 then (pairs fs (U.map Uv.L)).map (pairTap s) else []) (errQ s (pairs fs (U.map Uv.L))) w) := by
  have hb := sideT_t.1 hside
  obtain ⟨P, eP⟩ : ∃ P, pairs fs (U.map Uv.L) = P := ⟨_, rfl⟩
  obtain ⟨n, en⟩ : ∃ n, U.length = n := ⟨_, rfl⟩
  have hat := Lib.hid (fun k (hk : k < n) => (show P[k]? = some (fs.getD k 0, (U.getD k uv0).L) by rw [← eP]; exact pair_at (by omega) (by omega)))
  have hPl : P.length = n := by rw [← eP]; unfold pairs; rw [List.length_zip, List.length_map]; omega
  rw [eP, hlen]
  rw [en] at hb hside ⊢
  have HFS := Lib.hid hfs
  have HU := Lib.hid hU
  have HF := Lib.hid hF
  have HS := Lib.hid hside
  have EN := Lib.hid en
  have EF := Lib.hid (show fs.length = n by omega)
  have EPL := Lib.hid hPl
  have HTZ := Lib.hid hT
  obtain ⟨A, hA, hmk⟩ := run_taps n (by omega)
  have H0 : Hid (MadeIn w w.heap.size n ((P.take 0).map (pairTap s)) (List.replicate n tv0) (w.alloc (.cells A 31))) := Lib.hid (MadeIn.start (w := w) (n := n) (by omega) hA)
  have hb1 : (1 : Int) ≤ n ∧ (n : Int) ≤ 128 := hb
  obtain ⟨T, eT⟩ : ∃ T, (if errQ s P = 0 then P.map (pairTap s) else []) = T := ⟨_, rfl⟩
  have ET := Lib.hid eT
  rw [eT]
  clear hfs hU hF hlen hside en eP hPl eT hA hT hb
  go_enter Tryd.func23, Tryd.ntmps23
  go_wp2_with fail
  refine (wside_is HS.out _).mono ?_; rintro e w1 ⟨rfl, rfl⟩
  go_wp2_with fail
  obtain ⟨g, eg⟩ : ∃ g, w.heap.size = g := ⟨_, rfl⟩
  rw [eg] at H0
  rw [eg]
  clear eg
  go_loopw [29] (fun i wr => ∃ (k : Nat) (V : List Tv), k ≤ n ∧ i = .int .i64 k ∧ Hid (errQ s P = errQ s (P.drop k)) ∧ Hid (MadeIn w g n ((P.take k).map (pairTap s)) V wr)) (fun i _ => n - (intOf i).toNat)
  case atStart => exact ⟨0, _, by omega, rfl, Lib.hid (by simp), H0⟩
  case round =>
    clear H0 hmk
    obtain ⟨k, V, hk, rfl, HE, HI⟩ := hrel
    by_cases hlt : k < n
    · have hkI : (k : Int) < n := by omega
      have hHB := HI.out.2.2.2.2.2
      obtain ⟨p, po, rfl, hc1⟩ := is_below HFS.out hHB k (by rw [EF.out]; exact hlt)
      obtain ⟨q, qo, rfl, hc2, hu⟩ := lists_below HU.out hHB k (by rw [EN.out]; exact hlt)
      have hpa := hat.out k hlt
      have hfit := HF.out k (by rw [EN.out]; exact hlt)
      have HL : Hid (((P.take k).map (pairTap s)).length = k) := Lib.hid (by rw [List.length_map, List.length_take, EPL.out]; omega)
      have HTw : Hid (TabZ wr) := Lib.hid (HTZ.out.below hHB)
      obtain ⟨f, ef⟩ : ∃ f, fs.getD k 0 = f := ⟨_, rfl⟩
      obtain ⟨u, eu⟩ : ∃ u, U.getD k uv0 = u := ⟨_, rfl⟩
      rw [ef] at hc1 hpa
      rw [eu] at hc2 hu hpa hfit
      obtain ⟨ad, uc, L⟩ := u
      dsimp only at hc2 hu hpa hfit
      obtain ⟨l, el⟩ : ∃ l, L.length = l := ⟨_, rfl⟩
      rw [el] at hc2
      have EL := Lib.hid el
      have HUL := Lib.hid hu
      have HFit := Lib.hid hfit
      have HPA := Lib.hid hpa
      clear ef eu el hu hfit hpa hHB
      rcases hf : firstT f with _ | _
      · have H1 := Lib.hid hf
        have HR := Lib.hid (HE.out.trans (errQ_stop HPA.out (show pairE s (f, L) = 2 by unfold pairE; rw [hf]; rfl) (by decide)))
        have HBB := Lib.hid HI.out.2.2.2.2.2
        clear hf HE HI
        go_wp2_with fail
        refine (wfirst_is H1.out _).mono ?_; rintro e w2 ⟨rfl, rfl⟩
        go_wp2_with fail
        go_returns
        rw [HR.out]
        exact tab_nil (by rw [← ET.out, HR.out]; simp) HBB.out
      · have H1 := Lib.hid hf
        have hpe : pairE s (f, L) = quantC s L := by unfold pairE; rw [hf]; rfl
        obtain ⟨C, eC⟩ : ∃ C, quantC s L = C := ⟨_, rfl⟩
        obtain ⟨K, eK⟩ : ∃ K, quantL s L = K := ⟨_, rfl⟩
        have EC := Lib.hid eC
        have EK := Lib.hid eK
        rw [eC] at hpe
        by_cases hC : C = 0
        · subst hC
          have HE2 := Lib.hid (HE.out.trans (errQ_go HPA.out hpe))
          have HTK := Lib.hid (show (P.take (k + 1)).map (pairTap s) = (P.take k).map (pairTap s) ++ [⟨f, K⟩] by rw [pairs_take HPA.out]; unfold pairTap; rw [eK])
          have HKp := Lib.hid (show 0 < K.length by rw [← eK]; exact quant_pos eC)
          clear hf hpe eC eK HE
          go_wp2_with fail
          refine (wfirst_is H1.out _).mono ?_; rintro e w2 ⟨rfl, rfl⟩
          go_wp2_with fail
          refine (wq_l EK.out EC.out EL.out _ _ _ HUL.out HFit.out HTw.out).mono ?_; rintro e w3 ⟨ka, kc, rfl, hs3, hb3, hfar⟩
          replace hc1 := bkeep hb3 hc1
          have HI3 := Lib.hid (HI.out.below hb3)
          have hgl2 := Lib.hid HI.out.lt
          have hw2 := Lib.hid HI.out.2.2.2.2.2.size
          have HS3 := Lib.hid hs3
          have HFar := Lib.hid hfar
          obtain ⟨kl, ekl⟩ : ∃ kl, K.length = kl := ⟨_, rfl⟩
          have EKL := Lib.hid ekl
          have hcs := HI3.out.cells (by rw [HL.out]; exact hlt)
          rw [HL.out] at hcs
          obtain ⟨⟨c0, hc00⟩, ⟨c1, hc11⟩, hf0, hf1⟩ := hcs
          rw [ekl]
          clear hb3 hs3 hfar ekl hc2 HI
          go_wp2_with fail
          have HIn : Hid (MadeIn w g n ((P.take (k + 1)).map (pairTap s)) (V.set k ⟨f, ka, kc, K⟩) ((w3.setCell ⟨g, k * 2, none⟩ (.int .i64 f)).setCell ⟨g, k * 2 + 1, none⟩ (.slice ka kl kc))) := Lib.hid (by
            have h1 := HI3.out.set (t := ⟨f, ka, kc, K⟩) (by rw [HL.out]; exact hlt) HS3.out (fun b o s e => by
              have l1 := HFar.out b o s e
              have l2 := hgl2.out
              have l3 := hw2.out
              exact ⟨Nat.le_trans l3 l1, by omega, is_lt HS3.out HKp.out e⟩)
            simp only [Tv.val] at h1
            rw [HL.out, EKL.out] at h1
            rw [HTK.out]
            exact h1)
          clear hc1 hc00 hc11 hf0 hf1
          go_roundw
          case rel => exact ⟨k + 1, _, by omega, by go_num, HE2, HIn⟩
          case measure => simp [intOf]; omega
        · have hc0 : (C == 0) = false := by simpa using hC
          have HR := Lib.hid (HE.out.trans (errQ_stop HPA.out hpe hC))
          have HI2 := Lib.hid HI.out
          clear hf hpe eC eK HE
          go_wp2_with fail
          refine (wfirst_is H1.out _).mono ?_; rintro e w2 ⟨rfl, rfl⟩
          go_wp2_with fail
          refine (wq_l EK.out EC.out EL.out _ _ _ HUL.out HFit.out HTw.out).mono ?_; rintro e w3 ⟨ka, kc, rfl, hs3, hb3, hfar⟩
          have HBB := Lib.hid (bthen HI2.out.2.2.2.2.2 hb3)
          clear hs3 hb3 hfar
          go_wp2_with fail
          go_returns
          rw [HR.out]
          exact tab_nil (by rw [← ET.out, HR.out, if_neg hC]) HBB.out
    · obtain rfl : k = n := by omega
      have HR := Lib.hid (HE.out.trans (show errQ s (P.drop k) = 0 by rw [List.drop_eq_nil_of_le (by rw [EPL.out]; exact Nat.le_refl _)]; rfl))
      have HT : Hid (T = (P.take k).map (pairTap s)) := Lib.hid (by rw [← ET.out, HR.out, if_pos rfl, ← EPL.out, List.take_length])
      go_wp2_with fail
      go_returns
      rw [HR.out, HT.out]
      exact HI.out.done (by rw [List.length_map, List.length_take, EPL.out]; omega) 0
theorem wquant_any (fs : List Int) (U : List Uv) (s : Int) (a b : Option Addr) (cap cap' : Nat) (w : World) (hfs : SliceIs w a fs) (hU : ListsIs w b U) (hF : FitsLists U) (hT : TabZ w) :
    Calls Tryd.prog 23 #[.slice a fs.length cap, .slice b U.length cap', .int .i64 s] w (TabPost (qtT fs (U.map Uv.L) s) (qtC fs (U.map Uv.L) s) w) := by
  have el : (U.map Uv.L).length = U.length := by simp
  by_cases h1 : fs.length = U.length
  · rcases h2 : sideT U.length with _ | _
    · have hc : qtC fs (U.map Uv.L) s = 8 := by unfold qtC; rw [el, if_pos (.inr h2)]
      have hT : qtT fs (U.map Uv.L) s = [] := by unfold qtT; rw [hc]; rfl
      rw [hc, hT, h1]
      have H2 := Lib.hid h2
      clear hc hT h1 h2 el hfs hU
      go_enter Tryd.func23, Tryd.ntmps23
      go_wp2_with fail
      refine (wside_is H2.out _).mono ?_; rintro e w2 ⟨rfl, rfl⟩
      go_wp2_with fail
      go_returns
      exact tab_nil rfl (bref _)
    · have hc : qtC fs (U.map Uv.L) s = errQ s (pairs fs (U.map Uv.L)) := by unfold qtC; rw [el, h2, if_neg (by simp [h1])]
      have hT2 : qtT fs (U.map Uv.L) s = if errQ s (pairs fs (U.map Uv.L)) = 0 then (pairs fs (U.map Uv.L)).map (pairTap s) else [] := by unfold qtT; rw [hc]
      rw [hc, hT2]
      exact wquant_in fs U s a b cap cap' w hfs hU hF h1 h2 hT
  · have hc : qtC fs (U.map Uv.L) s = 8 := by unfold qtC; rw [el, if_pos (.inl h1)]
    have hT : qtT fs (U.map Uv.L) s = [] := by unfold qtT; rw [hc]; rfl
    rw [hc, hT]
    obtain ⟨x, ex⟩ : ∃ x, fs.length = x := ⟨_, rfl⟩
    obtain ⟨y, ey⟩ : ∃ y, U.length = y := ⟨_, rfl⟩
    rw [ex, ey] at h1 ⊢
    have h1I : ((x : Int) == y) = false := by simp; omega
    have h1J : ¬ (x : Int) = y := by omega
    clear hc hT h1 el hfs hU ex ey
    go_enter Tryd.func23, Tryd.ntmps23
    go_wp2_with fail
    go_returns
    exact tab_nil rfl (bref _)
end Go.Proofs.YtjmdpebocchdhaaDoor
