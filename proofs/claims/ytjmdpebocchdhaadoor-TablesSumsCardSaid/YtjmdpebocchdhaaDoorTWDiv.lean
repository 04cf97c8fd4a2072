/- divide of the package tables as a contract: a whole in parts by largest remainders, in new memory. -/
import Derived.Test.YtjmdpebocchdhaaDoorTWPlain
import Derived.Test.YtjmdpebocchdhaaDoorTDiv
import Derived.Test.YtjmdpebocchdhaaDoorEBits
import Derived.Deep.DeepCutAuto
namespace Go.Proofs.YtjmdpebocchdhaaDoor
open Go.ChangeShapes Go.WideShapes Go.ChangeAt Go.RowKit
set_option linter.unusedVariables false
set_option linter.unusedSimpArgs false

/-- two rows of one's own -/
abbrev WDivS (base g c h d n k : Nat) (w' : World) : Prop :=
  Hid (∃ O R : List Int, O.length = n ∧ R.length = n ∧ PixAt base w' g c O ∧ PixAt base w' h d R) ∧ w'.cell? ⟨g, k, none⟩ = some (valAt w' g k) ∧ w'.frozen? ⟨g, k, none⟩ = false ∧ w'.cell? ⟨h, k, none⟩ = some (valAt w' h k) ∧ w'.frozen? ⟨h, k, none⟩ = false
theorem wdivS_of {base g c h d n k : Nat} {w' : World} {O R : List Int} (h1 : O.length = n) (h2 : R.length = n) (h3 : PixAt base w' g c O) (h4 : PixAt base w' h d R) (hk : k < n) : WDivS base g c h d n k w' :=
  ⟨Lib.hid ⟨O, R, h1, h2, h3, h4⟩, val_at (h3.cell (by omega)), h3.frozen k, val_at (h4.cell (by omega)), h4.frozen k⟩
theorem wdivS_setg {base g c h d n k : Nat} {w' : World} (hgh : ¬ g = h) (hk : k < n) (hS : WDivS base g c h d n k w') (v : Int) : WDivS base g c h d n k (w'.setCell ⟨g, k, none⟩ (.int .i64 v)) := by
  obtain ⟨O, R, h1, h2, h3, h4⟩ := hS.1.out
  have hg := (h3.store k v).2
  exact wdivS_of (by rw [List.length_set]; exact h1) h2 (h3.store k v).1 (h4.grown hg (fun e => hgh (Option.some.inj e).symm)) hk
theorem wdivS_seth {base g c h d n k : Nat} {w' : World} (hgh : ¬ g = h) (hk : k < n) (hS : WDivS base g c h d n k w') (v : Int) : WDivS base g c h d n k (w'.setCell ⟨h, k, none⟩ (.int .i64 v)) := by
  obtain ⟨O, R, h1, h2, h3, h4⟩ := hS.1.out
  have hg := (h4.store k v).2
  exact wdivS_of h1 (by rw [List.length_set]; exact h2) (h3.grown hg (fun e => hgh (Option.some.inj e))) (h4.store k v).1 hk
theorem wdivS_drew {base g c h d n k : Nat} {w' : World} (hS : WDivS base g c h d n k w') : WDivS base g c h d n k w'.drew := by
  obtain ⟨O, R, h1, h2, h3, h4⟩ := hS.1.out
  exact ⟨Lib.hid ⟨O, R, h1, h2, h3.drewN 1, h4.drewN 1⟩, hS.2⟩
set_option maxRecDepth 100000 in
set_option maxHeartbeats 8000000 in
theorem wdivide_any (total S : Int) (P : List Int) (a : Option Addr) (cap : Nat) (w : World) (hs : SliceIs w a P) (hP : PartsOk P) (hsm : P.sum = S) (ht : 0 ≤ total ∧ total ≤ 16384) :
    Calls Tryd.prog 32 #[.int .i64 total, .slice a P.length cap, .int .i64 S] w fun e w' => ∃ g c, e = .returned (.slice (some ⟨g, 0, none⟩) P.length c) ∧ PixAt w.heap.size w' g c (divL total P) ∧ (divL total P).length = P.length ∧ Below w.heap.size w w' := by
  obtain ⟨n, en⟩ : ∃ n, P.length = n := ⟨_, rfl⟩
  have hn := hP.1
  rw [en] at hn
  obtain ⟨A, hA, hmk⟩ := run_zeros n (by omega)
  have hA' := Lib.hid hA
  have HS := Lib.hid hs
  have HP := Lib.hid hP
  have HT := Lib.hid ht
  have EN := Lib.hid en
  have hS1 := Lib.hid hsm
  have hnI : (1 : Int) ≤ n ∧ (n : Int) ≤ 8 := by omega
  have hSp : 1 ≤ S ∧ S ≤ 1024 := by
    have h1 := parts_sum hP P.length (Nat.le_refl _)
    rw [List.take_length, hsm] at h1
    omega
  have HZ0 := Lib.hid (two_z (wx := (w.alloc (.cells A 3)).alloc (.cells A 3)) w n (by omega) hA (bref _)).1
  rw [en]
  clear hs hP en hA hsm
  go_enter Tryd.func32, Tryd.ntmps32
  go_wp2_with fail
  obtain ⟨g, eg⟩ : ∃ g, w.heap.size = g := ⟨_, rfl⟩
  obtain ⟨h, eh⟩ : ∃ h, w.heap.size + 1 = h := ⟨_, rfl⟩
  obtain ⟨wc, ewc⟩ : ∃ wc, (w.alloc (.cells A 3)).alloc (.cells A 3) = wc := ⟨_, rfl⟩
  rw [ewc, eh] at HZ0
  rw [ewc, eh]
  have hgh := HZ0.out.1
  have hF0 := (floors_len total P.sum P).1
  have hR0 := (floors_len total P.sum P).2
  obtain ⟨FL, eFL⟩ : ∃ FL, floorsL total P.sum P = FL := ⟨_, rfl⟩
  obtain ⟨RL, eRL⟩ : ∃ RL, restsL total P.sum P = RL := ⟨_, rfl⟩
  have EFL := Lib.hid eFL
  have ERL := Lib.hid eRL
  rw [eFL, EN.out] at hF0
  rw [eRL, EN.out] at hR0
  have HF0 := Lib.hid hF0
  have HR0 := Lib.hid hR0
  have H0 : Hid (DivIn w g h n (partL FL 0) (partL RL 0) wc) := Lib.hid (by
    rw [partL_zero, partL_zero, hF0, hR0, ← eg]
    exact ⟨HZ0.out.2.1, by simp, by simp, HZ0.out.2.2.1, HZ0.out.2.2.2⟩)
  have hps := Lib.hid (fun j (hj : j < n) => part_names (P := P) HP.out HT.out (k := j) (by rw [EN.out]; exact hj))
  have hfs := Lib.hid (fun j (hj : j ≤ n) => floors_sum (P := P) HP.out HT.out j (by rw [EN.out]; exact hj))
  have hgl := Lib.hid HZ0.out.2.2.1.lt.1
  have hhl := Lib.hid HZ0.out.2.2.2.lt.1
  rw [eg] at hgh hgl hhl
  simp only [eg]
  clear eFL eRL hF0 hR0 HZ0 hmk ewc eh
  go_loopw [9, 22] (fun l i wr => ∃ (j : Nat) (Lf : Int), j ≤ n ∧ i = .int .i64 j ∧ l = .int .i64 Lf ∧ (-200000 ≤ Lf ∧ Lf ≤ 16384) ∧ Hid (Lf = total - (FL.take j).sum) ∧ Hid (DivIn w g h n (partL FL j) (partL RL j) wr)) (fun _ i _ => n - (intOf i).toNat)
  case atStart => exact ⟨0, total, by omega, rfl, rfl, by omega, Lib.hid (by simp), H0⟩
  case round =>
    clear H0
    obtain ⟨j, Lf, hj, rfl, rfl, hLf, HLf, HI⟩ := hrel
    by_cases hltj : j < n
    · obtain ⟨M, F1, R1, m1, m2, m3, m4, m5, m6, m7, m8⟩ := hps.out j hltj
      rw [EFL.out] at m7
      rw [ERL.out] at m8
      obtain ⟨b, off, rfl, hc0⟩ := HS.out j (by rw [EN.out]; exact hltj)
      have hc := bkeep HI.out.1 hc0
      obtain ⟨p, ep⟩ : ∃ p, P.getD j 0 = p := ⟨_, rfl⟩
      rw [ep] at hc m1
      rw [hS1.out] at m2 m3
      have hjI : (j : Int) < n := by omega
      have t1 : IntKind.i64.wrap (total * p) = M := by rw [m1]; exact IntWalk.i64_in _ (by omega)
      have t3 : IntKind.i64.wrap F1 = F1 := IntWalk.i64_in _ (by omega)
      have t5 : IntKind.i64.wrap R1 = R1 := IntWalk.i64_in _ (by omega)
      have hS0 : ¬ S = 0 := by omega
      have hfn := hfs.out (j + 1) (by omega)
      rw [EFL.out, take_sum (by rw [HF0.out]; exact hltj), m7] at hfn
      have HLn := Lib.hid (show Lf - F1 = total - (FL.take (j + 1)).sum by rw [take_sum (by rw [HF0.out]; exact hltj), m7, HLf.out]; omega)
      have hLb : -200000 ≤ Lf - F1 ∧ Lf - F1 ≤ 16384 := by rw [HLn.out, take_sum (by rw [HF0.out]; exact hltj), m7]; omega
      have hF1 : 0 ≤ F1 ∧ F1 ≤ 16384 := by omega
      have hBase : WDivS w.heap.size g n h n n j wr := wdivS_of HI.out.2.1 HI.out.2.2.1 HI.out.2.2.2.1 HI.out.2.2.2.2 hltj
      have hO : WDivS w.heap.size g n h n n j wr.drew := wdivS_drew hBase
      have HIn := Lib.hid (show DivIn w g h n (partL FL (j + 1)) (partL RL (j + 1)) (World.drew ((wr.setCell ⟨g, j, none⟩ (.int .i64 F1)).setCell ⟨h, j, none⟩ (.int .i64 R1))) by
        have := ((HI.out.setg hgh j F1).seth hgh j R1).below (bdrewN (bref _) 1)
        have e1 := partL_set (O := FL) (k := j) (by rw [HF0.out]; exact hltj)
        have e2 := partL_set (O := RL) (k := j) (by rw [HR0.out]; exact hltj)
        rw [m7] at e1
        rw [m8] at e2
        rw [e1, e2] at this
        exact this)
      have hcn : Hid ((World.drew ((wr.setCell ⟨g, j, none⟩ (.int .i64 F1)).setCell ⟨h, j, none⟩ (.int .i64 R1))).cell? ⟨g, j, none⟩ = some (.int .i64 F1)) := Lib.hid (by
        have := HIn.out.2.2.2.1.cell (k := j) (by rw [HIn.out.2.1]; exact hltj)
        rw [partL_at (by omega) (by rw [HF0.out]; omega), m7] at this
        exact this)
      clear m1 m4 m5 m6 m7 m8 hc0 HLf HI ep hfn
      go_upto_region 7 with fail
      first | go_must (go_region_held3 (fun w' => WDivS w.heap.size g n h n n j w') ((first | with_reducible exact hO | with_reducible exact wdivS_drew (wdivS_setg hgh hltj hBase _) | with_reducible exact wdivS_drew (wdivS_seth hgh hltj (wdivS_setg hgh hltj hBase _) _) | with_reducible exact wdivS_drew (wdivS_seth hgh hltj hBase _))) (fail)) | skip
      obtain ⟨wz, ewz⟩ : ∃ wz, World.drew ((wr.setCell ⟨g, j, none⟩ (.int .i64 F1)).setCell ⟨h, j, none⟩ (.int .i64 R1)) = wz := ⟨_, rfl⟩
      rw [ewz] at HIn hcn
      rw [ewz]
      have hcell := hcn.out
      clear ewz hO hBase hc t1 t3 t5 m2 m3 hcn
      go_wp2_with fail
      go_roundw
      case rel => exact ⟨j + 1, Lf - F1, by omega, by go_num, rfl, hLb, HLn, HIn⟩
      case measure => simp [intOf]; omega
    · obtain rfl : j = n := by omega
      have HR1 := Lib.hid (show (partL FL j) = FL ∧ (partL RL j) = RL from ⟨by rw [← HF0.out]; exact partL_end _, by rw [← HR0.out]; exact partL_end _⟩)
      have HI2 := Lib.hid HI.out
      rw [HR1.out.1, HR1.out.2] at HI2
      have hLeft : Hid (Lf = total - FL.sum) := Lib.hid (by rw [HLf.out, ← HF0.out, List.take_length])
      obtain ⟨M, eM⟩ : ∃ M : Nat, Lf.toNat = M := ⟨_, rfl⟩
      have HD : Hid ((iterZ M (FL, RL)).1 = divL total P) := Lib.hid (by rw [← eM, hLeft.out, ← divZ HP.out HT.out.1, EFL.out, ERL.out])
      have HSm : Hid (SmallO FL M) := Lib.hid (by rw [← EFL.out]; exact floors_small HP.out HT.out M (by omega))
      have hML : ∀ k : Nat, (k : Int) < Lf ↔ k < M := by intro k; omega
      have HML := Lib.hid hML
      have hMb : M ≤ 16384 := by omega
      clear HI HLf hLeft HR1 hps hfs hltj hj eM hML
      go_wp2_with fail
      go_loopw [51] (fun l wr => ∃ (k : Nat) (O R : List Int), k ≤ M ∧ l = .int .i64 k ∧ Hid (SmallO O ((M - k : Nat) : Int)) ∧ Hid ((iterZ (M - k) (O, R)).1 = divL total P) ∧ Hid (DivIn w g h j O R wr)) (fun l _ => M - (intOf l).toNat)
      case atStart => exact ⟨0, FL, RL, by omega, rfl, HSm, HD, HI2⟩
      case round =>
        clear HI2 HD HSm
        obtain ⟨k, O, R, hkM, rfl, HSm, HD, HI⟩ := hrel
        by_cases hltk : k < M
        · have hkI : (k : Int) < Lf := (HML.out k).2 hltk
          have hRS := HI.out.2.2.2.2.isS
          have hRl := HI.out.2.2.1
          obtain ⟨q, eq⟩ : ∃ q, bestAt R R.length = q := ⟨_, rfl⟩
          have hqj : q < j := by have := best_lt R R.length; omega
          have HQ := Lib.hid eq
          obtain ⟨v, ev⟩ : ∃ v, R.getD q 0 = v := ⟨_, rfl⟩
          have hbv : bestV R R.length = v := by unfold bestV; rw [eq, ev]
          have hfst : ∀ i, i < q → R.getD i 0 < v := by
            intro i hi
            rw [← hbv]; exact best_first _ R.length i (by rw [eq]; exact hi)
          have HMX := Lib.hid (vmax_any R (some ⟨h, 0, none⟩) j wr hRS (by omega) (by omega))
          have HIX := Lib.hid (vindex_any R (some ⟨h, 0, none⟩) j q v wr hRS (by omega) (by omega) ev hfst)
          rw [hbv, hRl] at HMX
          rw [hRl] at HIX
          clear eq ev hbv hfst hRS hRl
          go_wp2_with fail
          refine (HMX.out).mono ?_; rintro e w2 ⟨rfl, rfl⟩
          go_wp2_with fail
          refine (HIX.out).mono ?_; rintro e w2 ⟨rfl, hb⟩
          have HIb := Lib.hid (HI.out.below hb)
          clear hb HMX HIX
          have hqI : (q : Int) < j := by omega
          have co := HIb.out.2.2.2.1.cell (k := q) (by rw [HIb.out.2.1]; exact hqj)
          have fo := HIb.out.2.2.2.1.frozen q
          have hsm := HSm.out q
          obtain ⟨x, ex⟩ : ∃ x, O.getD q 0 = x := ⟨_, rfl⟩
          rw [ex] at co hsm
          have HN : Hid (DivIn w g h j (O.set q (x + 1)) (R.set q 0) ((w2.setCell ⟨g, q, none⟩ (.int .i64 (x + 1))).setCell ⟨h, q, none⟩ (.int .i64 0))) := Lib.hid ((HIb.out.setg hgh q (x + 1)).seth hgh q 0)
          have HM := (HIb.out.setg hgh q (x + 1))
          have ch := HM.2.2.2.2.cell (k := q) (by rw [HM.2.2.1]; exact hqj)
          have fh := HM.2.2.2.2.frozen q
          have eMk : M - k = (M - (k + 1)) + 1 := by omega
          have HSm2 : Hid (SmallO (O.set q (x + 1)) ((M - (k + 1) : Nat) : Int)) := Lib.hid (by
            have h1 := smallO_step (b := q) HSm.out (by omega)
            rw [ex, eMk] at h1
            have e2 : ((M - (k + 1) + 1 : Nat) : Int) - 1 = ((M - (k + 1) : Nat) : Int) := by omega
            rw [e2] at h1
            exact h1)
          have HD2 : Hid ((iterZ (M - (k + 1)) (O.set q (x + 1), R.set q 0)).1 = divL total P) := Lib.hid (by
            rw [← HD.out, eMk, ← ex]
            show _ = (iterZ (M - (k + 1)) (stepZ (O, R))).1
            unfold stepZ
            rw [HQ.out])
          have hx : 0 ≤ x ∧ x ≤ 40000 := by omega
          clear ex HM HI HIb HSm HD HQ eMk hsm
          go_wp2_with fail
          go_roundw
          case rel => exact ⟨k + 1, O.set q (x + 1), R.set q 0, by omega, by go_num, HSm2, HD2, HN⟩
          case measure => simp [intOf]; omega
        · have hkI : ¬ (k : Int) < Lf := fun g => hltk ((HML.out k).1 g)
          have HO : Hid (O = divL total P) := Lib.hid (by rw [← HD.out, show M - k = 0 by omega]; rfl)
          go_wp2_with fail
          go_ret
          rw [← HO.out]
          have z1 := HI.out.2.2.2.1
          have z2 := HI.out.1
          rw [eg] at z1 z2
          exact ⟨g, j, rfl, z1, HI.out.2.1, z2⟩
theorem wdivide_l {total S : Int} {P D : List Int} {l : Nat} (e : P.length = l) (eD : divL total P = D) (hsm : P.sum = S) (a : Option Addr) (cap : Nat) (w : World) (hs : SliceIs w a P) (hP : PartsOk P) (ht : 0 ≤ total ∧ total ≤ 16384) :
    Calls Tryd.prog 32 #[.int .i64 total, .slice a l cap, .int .i64 S] w fun e w' => ∃ g c, e = .returned (.slice (some ⟨g, 0, none⟩) l c) ∧ PixAt w.heap.size w' g c D ∧ D.length = l ∧ Below w.heap.size w w' := by
  subst e; subst eD; exact wdivide_any total S P a cap w hs hP hsm ht
end Go.Proofs.YtjmdpebocchdhaaDoor
