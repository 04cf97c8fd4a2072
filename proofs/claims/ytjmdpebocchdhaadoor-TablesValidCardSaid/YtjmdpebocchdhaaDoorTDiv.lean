/- divide of the reference's tables as a contract: a total in parts by largest remainders, in new memory. -/
import Derived.Test.YtjmdpebocchdhaaDoorTDivPlain
import Derived.Test.YtjmdpebocchdhaaDoorTLinear
import Derived.Test.YtjmdpebocchdhaaDoorWithin
import Derived.Deep.DeepMust
import Derived.Deep.RegionHeld3
import Derived.Deep.RegionWith
namespace Go.Proofs.YtjmdpebocchdhaaDoor
open Go.ChangeShapes Go.WideShapes Go.ChangeAt Go.RowKit
set_option linter.unusedVariables false
set_option linter.unusedSimpArgs false

/-- two rows of one's own, and one part -/
abbrev DivS (base g c h d n b o k : Nat) (p : Int) (w' : World) : Prop :=
  Hid (∃ O R : List Int, O.length = n ∧ R.length = n ∧ PixAt base w' g c O ∧ PixAt base w' h d R) ∧ w'.cell? ⟨b, o, none⟩ = some (.int .i64 p) ∧ w'.cell? ⟨g, k, none⟩ = some (valAt w' g k) ∧ w'.frozen? ⟨g, k, none⟩ = false ∧ w'.cell? ⟨h, k, none⟩ = some (valAt w' h k) ∧ w'.frozen? ⟨h, k, none⟩ = false
theorem val_at {w' : World} {g k : Nat} {u : Value} (h : w'.cell? ⟨g, k, none⟩ = some u) : w'.cell? ⟨g, k, none⟩ = some (valAt w' g k) := by simp [valAt, h]
theorem divS_of {base g c h d n b o k : Nat} {p : Int} {w' : World} {O R : List Int} (h1 : O.length = n) (h2 : R.length = n) (h3 : PixAt base w' g c O) (h4 : PixAt base w' h d R) (hk : k < n) (hc : w'.cell? ⟨b, o, none⟩ = some (.int .i64 p)) : DivS base g c h d n b o k p w' :=
  ⟨Lib.hid ⟨O, R, h1, h2, h3, h4⟩, hc, val_at (h3.cell (by omega)), h3.frozen k, val_at (h4.cell (by omega)), h4.frozen k⟩
theorem divS_setg {base g c h d n b o k : Nat} {p : Int} {w' : World} (hgh : ¬ g = h) (hbg : ¬ b = g) (hk : k < n) (hS : DivS base g c h d n b o k p w') (v : Int) : DivS base g c h d n b o k p (w'.setCell ⟨g, k, none⟩ (.int .i64 v)) := by
  obtain ⟨O, R, h1, h2, h3, h4⟩ := hS.1.out
  have hg := (h3.store k v).2
  exact divS_of (by rw [List.length_set]; exact h1) h2 (h3.store k v).1 (h4.grown hg (fun e => hgh (Option.some.inj e).symm)) hk (hg.cell hS.2.1 (fun e => hbg (Option.some.inj e)))
theorem divS_seth {base g c h d n b o k : Nat} {p : Int} {w' : World} (hgh : ¬ g = h) (hbh : ¬ b = h) (hk : k < n) (hS : DivS base g c h d n b o k p w') (v : Int) : DivS base g c h d n b o k p (w'.setCell ⟨h, k, none⟩ (.int .i64 v)) := by
  obtain ⟨O, R, h1, h2, h3, h4⟩ := hS.1.out
  have hg := (h4.store k v).2
  exact divS_of h1 (by rw [List.length_set]; exact h2) (h3.grown hg (fun e => hgh (Option.some.inj e))) (h4.store k v).1 hk (hg.cell hS.2.1 (fun e => hbh (Option.some.inj e)))
theorem divS_drew {base g c h d n b o k : Nat} {p : Int} {w' : World} (hS : DivS base g c h d n b o k p w') : DivS base g c h d n b o k p w'.drew := by
  obtain ⟨O, R, h1, h2, h3, h4⟩ := hS.1.out
  exact ⟨Lib.hid ⟨O, R, h1, h2, h3.drewN 1, h4.drewN 1⟩, hS.2⟩
/-- two new rows of zeros -/
def TwoZ (w : World) (n g h : Nat) (wx : World) : Prop := ¬ g = h ∧ Below w.heap.size w wx ∧ PixAt w.heap.size wx g n (List.replicate n 0) ∧ PixAt w.heap.size wx h n (List.replicate n 0)
theorem pix_zero (w : World) (n : Nat) (hn : n ≤ 16384) {A : Array Value} (hA : A = (ints (List.replicate n 0)).toArray) {base : Nat} (hb : base ≤ w.heap.size) : PixAt base (w.alloc (.cells A 3)) w.heap.size n (List.replicate n 0) := by
  have hr := row_new w (List.replicate n 0)
  rw [← hA] at hr
  have := RowIs.pix (base := base) hr hb (by simp [maxLen]; omega)
  simpa using this
theorem two_z (w : World) (n : Nat) (hn : n ≤ 16384) {A : Array Value} (hA : A = (ints (List.replicate n 0)).toArray) {wx : World} (hb : Below ((w.alloc (.cells A 3)).alloc (.cells A 3)).heap.size ((w.alloc (.cells A 3)).alloc (.cells A 3)) wx) : TwoZ w n w.heap.size (w.heap.size + 1) wx ∧ TwoZ w n (w.heap.size + 1) w.heap.size wx := by
  have p1 := (pix_zero w n hn hA (Nat.le_refl _)).below (balloc (bref _) (.cells A 3))
  have p2 := pix_zero (w.alloc (.cells A 3)) n hn hA (base := w.heap.size) (by simp)
  have e : (w.alloc (.cells A 3)).heap.size = w.heap.size + 1 := by simp
  rw [e] at p2
  have hB := bthen (balloc (balloc (bref w) (.cells A 3)) (.cells A 3)) hb
  exact ⟨⟨by omega, hB, p1.below hb, p2.below hb⟩, ⟨by omega, hB, p2.below hb, p1.below hb⟩⟩
/-- where the two rows stand -/
def DivIn (w : World) (g h n : Nat) (O R : List Int) (wr : World) : Prop := Below w.heap.size w wr ∧ O.length = n ∧ R.length = n ∧ PixAt w.heap.size wr g n O ∧ PixAt w.heap.size wr h n R
theorem DivIn.below {w : World} {g h n : Nat} {O R : List Int} {wr w' : World} (H : DivIn w g h n O R wr) (hb : Below wr.heap.size wr w') : DivIn w g h n O R w' := ⟨bthen H.1 hb, H.2.1, H.2.2.1, H.2.2.2.1.below hb, H.2.2.2.2.below hb⟩
theorem DivIn.setg {w : World} {g h n : Nat} {O R : List Int} {wr : World} (hgh : ¬ g = h) (H : DivIn w g h n O R wr) (k : Nat) (v : Int) : DivIn w g h n (O.set k v) R (wr.setCell ⟨g, k, none⟩ (.int .i64 v)) := by
  have hg := (H.2.2.2.1.store k v).2
  exact ⟨H.1.setCell (p := ⟨g, k, none⟩) H.2.2.2.1.lt.1 _, by rw [List.length_set]; exact H.2.1, H.2.2.1, (H.2.2.2.1.store k v).1, H.2.2.2.2.grown hg (fun e => hgh (Option.some.inj e).symm)⟩
theorem DivIn.seth {w : World} {g h n : Nat} {O R : List Int} {wr : World} (hgh : ¬ g = h) (H : DivIn w g h n O R wr) (k : Nat) (v : Int) : DivIn w g h n O (R.set k v) (wr.setCell ⟨h, k, none⟩ (.int .i64 v)) := by
  have hg := (H.2.2.2.2.store k v).2
  exact ⟨H.1.setCell (p := ⟨h, k, none⟩) H.2.2.2.2.lt.1 _, H.2.1, by rw [List.length_set]; exact H.2.2.1, H.2.2.2.1.grown hg (fun e => hgh (Option.some.inj e)), (H.2.2.2.2.store k v).1⟩
set_option maxRecDepth 100000 in
set_option maxHeartbeats 8000000 in
theorem rdivide_any (total : Int) (P : List Int) (a : Option Addr) (cap : Nat) (w : World) (hs : SliceIs w a P) (hP : PartsOk P) (ht : 0 ≤ total ∧ total ≤ 16384) :
    Calls Tryd.prog 33 #[.int .i64 total, .slice a P.length cap] w fun e w' => ∃ g c, e = .returned (.slice (some ⟨g, 0, none⟩) P.length c) ∧ PixAt w.heap.size w' g c (divL total P) ∧ (divL total P).length = P.length ∧ Below w.heap.size w w' := by
  obtain ⟨n, en⟩ : ∃ n, P.length = n := ⟨_, rfl⟩
  have hn := hP.1
  rw [en] at hn
  obtain ⟨A, hA, hmk⟩ := run_zeros n (by omega)
  have hA' := Lib.hid hA
  have HS := Lib.hid hs
  have HP := Lib.hid hP
  have HT := Lib.hid ht
  have EN := Lib.hid en
  have hsum := Lib.hid (fun k hk => parts_sum hP k hk)
  have hnI : (1 : Int) ≤ n ∧ (n : Int) ≤ 8 := by omega
  rw [en]
  clear hs hP en hA
  go_enter Tryd.func33, Tryd.ntmps33
  go_wp2_with fail
  go_loop [5, 6] (fun s i => ∃ (k : Nat) (S : Int), k ≤ n ∧ i = .int .i64 k ∧ s = .int .i64 S ∧ (0 ≤ S ∧ S ≤ 1024) ∧ Hid ((P.take k).sum = S)) (fun _ i => n - (intOf i).toNat)
  case atStart => exact ⟨0, 0, by omega, rfl, rfl, by omega, Lib.hid (by simp)⟩
  case round =>
    obtain ⟨k, S, hk, rfl, rfl, hS, HSum⟩ := hrel
    by_cases hlt : k < n
    · obtain ⟨b, off, rfl, hc⟩ := HS.out k (by rw [EN.out]; exact hlt)
      have hp := HP.out.2 k (by rw [EN.out]; exact hlt)
      have hsn := (hsum.out (k + 1) (by rw [EN.out]; omega)).2.1
      rw [take_sum (by rw [EN.out]; exact hlt), HSum.out] at hsn
      obtain ⟨p, ep⟩ : ∃ p, P.getD k 0 = p := ⟨_, rfl⟩
      have HN := Lib.hid (show (P.take (k + 1)).sum = S + p by rw [take_sum (by rw [EN.out]; exact hlt), HSum.out, ep])
      rw [ep] at hc hp hsn
      have hkI : (k : Int) < n := by omega
      clear ep HSum
      go_wp2_with fail
      go_round
      case rel => exact ⟨k + 1, S + p, by omega, by go_num, rfl, by omega, HN⟩
      case measure => simp [intOf]; omega
    · obtain rfl : k = n := by omega
      have hS1 := Lib.hid (show P.sum = S by rw [← HSum.out, ← EN.out, List.take_length])
      have hSp : 1 ≤ S := by
        have := (hsum.out k (by rw [EN.out]; exact Nat.le_refl _)).1
        rw [HSum.out] at this; omega
      clear HSum hlt hk
      go_upto_region 6 with fail
      go_cut [7, 8] (fun x y wx => ∃ g h, x = .slice (some ⟨g, 0, none⟩) k k ∧ y = .slice (some ⟨h, 0, none⟩) k k ∧ Hid (TwoZ w k g h wx))
      case first =>
        first | go_must (go_region_with fail) | skip
        all_goals
          go_wp2_with fail
          go_meet
          first
            | exact ⟨_, _, rfl, rfl, Lib.hid (two_z (wx := World.drew _) w k (by omega) hA'.out (bdrewN (bref _) 1)).1⟩
            | exact ⟨_, _, rfl, rfl, Lib.hid (two_z (wx := World.drew _) w k (by omega) hA'.out (bdrewN (bref _) 1)).2⟩
      case rest =>
        obtain ⟨g, h, rfl, rfl, hZ⟩ := hcut
        have hgh := hZ.out.1
        have hF0 := (floors_len total P.sum P).1
        have hR0 := (floors_len total P.sum P).2
        obtain ⟨FL, eFL⟩ : ∃ FL, floorsL total P.sum P = FL := ⟨_, rfl⟩
        obtain ⟨RL, eRL⟩ : ∃ RL, restsL total P.sum P = RL := ⟨_, rfl⟩
        have EFL := Lib.hid eFL
        have ERL := Lib.hid eRL
        rw [eFL, EN.out] at hF0
        rw [eRL, EN.out] at hR0
        have HF0 := Lib.hid hF0
        have HR0 := Lib.hid hR0
        have H0 : Hid (DivIn w g h k (partL FL 0) (partL RL 0) wc) := Lib.hid (by
          rw [partL_zero, partL_zero, hF0, hR0]
          exact ⟨hZ.out.2.1, by simp, by simp, hZ.out.2.2.1, hZ.out.2.2.2⟩)
        have hps := Lib.hid (fun j (hj : j < k) => part_names (P := P) HP.out HT.out (k := j) (by rw [EN.out]; exact hj))
        have hfs := Lib.hid (fun j (hj : j ≤ k) => floors_sum (P := P) HP.out HT.out j (by rw [EN.out]; exact hj))
        have hgl := Lib.hid hZ.out.2.2.1.lt.1
        have hhl := Lib.hid hZ.out.2.2.2.lt.1
        clear eFL eRL hF0 hR0 hZ hmk
        go_wp2_with fail
        go_loopw [9, 10] (fun l i wr => ∃ (j : Nat) (Lf : Int), j ≤ k ∧ i = .int .i64 j ∧ l = .int .i64 Lf ∧ (-200000 ≤ Lf ∧ Lf ≤ 16384) ∧ Hid (Lf = total - (FL.take j).sum) ∧ Hid (DivIn w g h k (partL FL j) (partL RL j) wr)) (fun _ i _ => k - (intOf i).toNat)
        case atStart => exact ⟨0, total, by omega, rfl, rfl, by omega, Lib.hid (by simp), H0⟩
        case round =>
          clear H0
          obtain ⟨j, Lf, hj, rfl, rfl, hLf, HLf, HI⟩ := hrel
          by_cases hltj : j < k
          · obtain ⟨M, F1, R1, m1, m2, m3, m4, m5, m6, m7, m8⟩ := hps.out j hltj
            rw [EFL.out] at m7
            rw [ERL.out] at m8
            obtain ⟨b, off, rfl, hc0⟩ := HS.out j (by rw [EN.out]; exact hltj)
            have hbw := World.block_lt_of_cell? _ _ hc0
            have hbg : ¬ b = g := by have := hgl.out; simp at hbw; omega
            have hbh : ¬ b = h := by have := hhl.out; simp at hbw; omega
            have hc := bkeep HI.out.1 hc0
            obtain ⟨p, ep⟩ : ∃ p, P.getD j 0 = p := ⟨_, rfl⟩
            rw [ep] at hc m1
            rw [hS1.out] at m2 m3
            have hjI : (j : Int) < k := by omega
            have t1 : IntKind.i64.wrap (total * p) = M := by rw [m1]; exact IntWalk.i64_in _ (by omega)
            have t3 : IntKind.i64.wrap F1 = F1 := IntWalk.i64_in _ (by omega)
            have t5 : IntKind.i64.wrap R1 = R1 := IntWalk.i64_in _ (by omega)
            have hS0 : ¬ S = 0 := by omega
            have hfn := hfs.out (j + 1) (by omega)
            rw [EFL.out, take_sum (by rw [HF0.out]; exact hltj), m7] at hfn
            have HLn := Lib.hid (show Lf - F1 = total - (FL.take (j + 1)).sum by rw [take_sum (by rw [HF0.out]; exact hltj), m7, HLf.out]; omega)
            have hLb : -200000 ≤ Lf - F1 ∧ Lf - F1 ≤ 16384 := by rw [HLn.out, take_sum (by rw [HF0.out]; exact hltj), m7]; omega
            have hF1 : 0 ≤ F1 ∧ F1 ≤ 16384 := by omega
            have hBase : DivS w.heap.size g k h k k b (off + j) j p wr := divS_of HI.out.2.1 HI.out.2.2.1 HI.out.2.2.2.1 HI.out.2.2.2.2 hltj hc
            have hO : DivS w.heap.size g k h k k b (off + j) j p wr.drew := divS_drew hBase
            have HIn := Lib.hid (show DivIn w g h k (partL FL (j + 1)) (partL RL (j + 1)) (World.drew ((wr.setCell ⟨g, j, none⟩ (.int .i64 F1)).setCell ⟨h, j, none⟩ (.int .i64 R1))) by
              have := ((HI.out.setg hgh j F1).seth hgh j R1).below (bdrewN (bref _) 1)
              have e1 := partL_set (O := FL) (k := j) (by rw [HF0.out]; exact hltj)
              have e2 := partL_set (O := RL) (k := j) (by rw [HR0.out]; exact hltj)
              rw [m7] at e1
              rw [m8] at e2
              rw [e1, e2] at this
              exact this)
            have hcn : Hid ((World.drew ((wr.setCell ⟨g, j, none⟩ (.int .i64 F1)).setCell ⟨h, j, none⟩ (.int .i64 R1))).cell? ⟨g, j, none⟩ = some (.int .i64 F1)) := Lib.hid (by
              have := HIn.out.2.2.2.1.cell (k := j) (by rw [HIn.out.2.1]; exact hltj)
              rw [partL_at (by omega) (by rw [HF0.out]; omega), m7] at this
              exact this)
            clear m1 m4 m5 m6 m7 m8 hc0 hbw HLf HI ep hfn
            go_upto_region 11 with fail
            first | go_must (go_region_held3 (fun w' => DivS w.heap.size g k h k k b (off + j) j p w') ((first | with_reducible exact hO | with_reducible exact divS_drew (divS_setg hgh hbg hltj hBase _) | with_reducible exact divS_drew (divS_seth hgh hbh hltj (divS_setg hgh hbg hltj hBase _) _) | with_reducible exact divS_drew (divS_seth hgh hbh hltj hBase _))) (fail)) | skip
            obtain ⟨wz, ewz⟩ : ∃ wz, World.drew ((wr.setCell ⟨g, j, none⟩ (.int .i64 F1)).setCell ⟨h, j, none⟩ (.int .i64 R1)) = wz := ⟨_, rfl⟩
            rw [ewz] at HIn hcn
            rw [ewz]
            have hcell := hcn.out
            clear ewz hO hBase hc t1 t3 t5 m2 m3 hcn
            go_wp2_with fail
            go_roundw
            case rel => exact ⟨j + 1, Lf - F1, by omega, by go_num, rfl, hLb, HLn, HIn⟩
            case measure => simp [intOf]; omega
          · obtain rfl : j = k := by omega
            have HR1 := Lib.hid (show (partL FL j) = FL ∧ (partL RL j) = RL from ⟨by rw [← HF0.out]; exact partL_end _, by rw [← HR0.out]; exact partL_end _⟩)
            have HI2 := Lib.hid HI.out
            rw [HR1.out.1, HR1.out.2] at HI2
            have hLeft : Hid (Lf = total - FL.sum) := Lib.hid (by rw [HLf.out, ← HF0.out, List.take_length])
            have HD : Hid ((iterD Lf.toNat (FL, RL)).1 = divL total P) := Lib.hid (by unfold divL; rw [EFL.out, ERL.out, hLeft.out])
            have HSm : Hid (SmallO FL Lf) := Lib.hid (by rw [← EFL.out]; exact floors_small HP.out HT.out Lf hLf.2)
            clear HI HLf hLeft HR1 hps hfs hltj hj
            go_wp2_with fail
            go_loopw [9] (fun l wr => ∃ (Lf : Int) (O R : List Int), l = .int .i64 Lf ∧ (-200000 ≤ Lf ∧ Lf ≤ 16384) ∧ Hid (SmallO O Lf) ∧ Hid ((iterD Lf.toNat (O, R)).1 = divL total P) ∧ Hid (DivIn w g h j O R wr)) (fun l _ => (intOf l).toNat)
            case atStart => exact ⟨Lf, FL, RL, rfl, hLf, HSm, HD, HI2⟩
            case round =>
              clear HI2 HD HSm
              obtain ⟨Lf, O, R, rfl, hLf, HSm, HD, HI⟩ := hrel
              by_cases hpos : 0 < Lf
              · go_wp2_with fail
                go_loopw [11, 12] (fun b i wr2 => ∃ (q i2 : Nat), b = .int .i64 q ∧ i = .int .i64 i2 ∧ (1 ≤ i2 ∧ i2 ≤ j) ∧ q < i2 ∧ Hid (q = bestAt R i2) ∧ Hid (Below wr.heap.size wr wr2)) (fun _ i _ => j - (intOf i).toNat)
                case atStart => exact ⟨0, 1, rfl, rfl, by omega, by omega, Lib.hid (bestAt_one R).symm, Lib.hid (bref _)⟩
                case round =>
                  obtain ⟨q, i2, rfl, rfl, hi2, hq, HQ, HB⟩ := hrel
                  have HIb := Lib.hid (HI.out.below HB.out)
                  by_cases hlt2 : i2 < j
                  · have hiI : (i2 : Int) < j := by omega
                    have hqI : (q : Int) < j := by omega
                    have c1 := HIb.out.2.2.2.2.cell (k := i2) (by rw [HIb.out.2.2.1]; exact hlt2)
                    have c2 := HIb.out.2.2.2.2.cell (k := q) (by rw [HIb.out.2.2.1]; omega)
                    obtain ⟨x, ex⟩ : ∃ x, R.getD i2 0 = x := ⟨_, rfl⟩
                    obtain ⟨y, ey⟩ : ∃ y, R.getD q 0 = y := ⟨_, rfl⟩
                    rw [ex] at c1
                    rw [ey] at c2
                    have hst : Hid (bestAt R (i2 + 1) = if y < x then i2 else q) := Lib.hid (by rw [bestAt_step, ← HQ.out, ex, ey])
                    clear ex ey
                    by_cases hxy : y < x
                    · have HQ2 := Lib.hid (show i2 = bestAt R (i2 + 1) by rw [hst.out, if_pos hxy])
                      go_wp2_with fail
                      go_quiet (fail)
                      go_wp2_with fail
                      go_roundw
                      case rel => exact ⟨i2, i2 + 1, rfl, by go_num, by omega, by omega, HQ2, Lib.hid (bthen HB.out (bdrewN (bref _) _))⟩
                      case measure => simp [intOf]; omega
                    · have HQ2 := Lib.hid (show q = bestAt R (i2 + 1) by rw [hst.out, if_neg hxy])
                      go_wp2_with fail
                      go_quiet (fail)
                      go_wp2_with fail
                      go_roundw
                      case rel => exact ⟨q, i2 + 1, rfl, by go_num, by omega, by omega, HQ2, Lib.hid (bthen HB.out (bdrewN (bref _) _))⟩
                      case measure => simp [intOf]; omega
                  · obtain rfl : i2 = j := by omega
                    have hqI : (q : Int) < i2 := by omega
                    have HQE := Lib.hid (show q = bestAt R R.length by rw [HIb.out.2.2.1]; exact HQ.out)
                    have co := HIb.out.2.2.2.1.cell (k := q) (by rw [HIb.out.2.1]; exact hq)
                    have fo := HIb.out.2.2.2.1.frozen q
                    have hsm := HSm.out q
                    obtain ⟨x, ex⟩ : ∃ x, O.getD q 0 = x := ⟨_, rfl⟩
                    rw [ex] at co hsm
                    have HN : Hid (DivIn w g h i2 (O.set q (x + 1)) (R.set q (-1)) ((wr.setCell ⟨g, q, none⟩ (.int .i64 (x + 1))).setCell ⟨h, q, none⟩ (.int .i64 (-1)))) := Lib.hid ((HIb.out.setg hgh q (x + 1)).seth hgh q (-1))
                    have HM := (HIb.out.setg hgh q (x + 1))
                    have ch := HM.2.2.2.2.cell (k := q) (by rw [HM.2.2.1]; exact hq)
                    have fh := HM.2.2.2.2.frozen q
                    have HSm2 : Hid (SmallO (O.set q (x + 1)) (Lf - 1)) := Lib.hid (by rw [← ex]; exact smallO_step HSm.out hpos)
                    have HD2 : Hid ((iterD (Lf - 1).toNat (O.set q (x + 1), R.set q (-1))).1 = divL total P) := Lib.hid (by
                      rw [← HD.out, show Lf.toNat = (Lf - 1).toNat + 1 by omega, ← ex]
                      show _ = (iterD (Lf - 1).toNat (stepD (O, R))).1
                      unfold stepD
                      rw [← HQE.out])
                    clear ex HM HI HIb HB HSm HD HQ
                    go_wp2_with fail
                    go_roundw
                    case rel => exact ⟨Lf - 1, O.set q (x + 1), R.set q (-1), rfl, by omega, HSm2, HD2, HN⟩
                    case measure => simp [intOf]; omega
              · have HO : Hid (O = divL total P) := Lib.hid (by rw [← HD.out, show Lf.toNat = 0 by omega]; rfl)
                go_wp2_with fail
                go_ret
                rw [← HO.out]
                exact ⟨g, j, rfl, HI.out.2.2.2.1, HI.out.2.1, HI.out.1⟩
end Go.Proofs.YtjmdpebocchdhaaDoor
