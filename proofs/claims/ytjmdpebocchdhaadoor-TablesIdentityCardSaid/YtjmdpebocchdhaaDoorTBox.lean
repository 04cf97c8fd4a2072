/- Box of the reference's tables as a contract: the table, or the error; the world gets new blocks at most. -/
import Derived.Test.YtjmdpebocchdhaaDoorTBoxPlain
import Derived.Test.YtjmdpebocchdhaaDoorTDiv
import Derived.Lib.MinMax
namespace Go.Proofs.YtjmdpebocchdhaaDoor
open Go.ChangeShapes Go.WideShapes Go.ChangeAt Go.RowKit
set_option linter.unusedVariables false
set_option linter.unusedSimpArgs false

theorem boxOk_step {n m : Int} {k : Nat} (h : boxOk n m k = true) (h8 : boxN n m k ≤ 8) : boxOk n m (k + 1) = true := by
  unfold boxOk at *
  rw [List.range_succ, List.all_append, h]; simp [h8]
theorem boxOk_no {n m : Int} {k M : Nat} (hk : k < M) (h8 : ¬ boxN n m k ≤ 8) : boxOk n m M = false := by
  unfold boxOk
  rw [List.all_eq_false]
  exact ⟨k, List.mem_range.2 hk, by simpa using h8⟩
theorem rdivide_l {total : Int} {P D : List Int} {l : Nat} (e : P.length = l) (eD : divL total P = D) (a : Option Addr) (cap : Nat) (w : World) (hs : SliceIs w a P) (hP : PartsOk P) (ht : 0 ≤ total ∧ total ≤ 16384) :
    Calls Tryd.prog 33 #[.int .i64 total, .slice a l cap] w fun e w' => ∃ g c, e = .returned (.slice (some ⟨g, 0, none⟩) l c) ∧ PixAt w.heap.size w' g c D ∧ D.length = l ∧ Below w.heap.size w w' := by
  subst e; subst eD; exact rdivide_any total P a cap w hs hP ht
/-- the parts so far, in memory that was made since -/
def PartIn (wt : World) (v : Value) (L : List Int) (wr : World) : Prop := Below wt.heap.size wt wr ∧ OwnL wt.heap.size wr v L
theorem PartIn.below {wt : World} {v : Value} {L : List Int} {wr w' : World} (h : PartIn wt v L wr) (hb : Below wr.heap.size wr w') : PartIn wt v L w' := ⟨bthen h.1 hb, h.2.below hb⟩
theorem PartIn.app {wt : World} {v v' : Value} {L : List Int} {n : Int} {wr w' : World} (h : PartIn wt v L wr) (ho : w'.ownsRow wt.heap.size 3 1 v' (L.length + 1) (ints L ++ [.int .i64 n])) (hg : wr.grownBy w' v.ownBlock) : PartIn wt v' (L ++ [n]) w' :=
  ⟨h.1.grown hg h.1.size (fun j hj => (h.2.lt hj).1), OwnL.more ho⟩
set_option maxRecDepth 100000 in
set_option maxHeartbeats 8000000 in
theorem rbox_in (n m s : Int) (T : List Tp) (C : Int) (w : World) (hn : 1 ≤ n ∧ n ≤ 128) (hm : 1 ≤ m ∧ m ≤ 128) (hs : 0 ≤ s ∧ s ≤ 14) (HT : Hid (boxT n m s = T)) (HC : Hid (boxC n m s = C)) : Calls Tryd.prog 18 #[.int .i64 n, .int .i64 m, .int .i64 s] w (TabPost T C w) := by
  have HN := Lib.hid (sideT_t.2 hn)
  have HM := Lib.hid (sideT_t.2 hm)
  have HCE : Hid (boxC n m s = if boxOk n m m.toNat = true then 0 else 9) := Lib.hid (by
    have : makeC n m s = 0 := by unfold makeC; rw [sideT_t.2 hn, sideT_t.2 hm, if_neg (by simp), if_neg (by omega)]
    unfold boxC; rw [this, if_neg (by simp)])
  obtain ⟨i0, hi, hi0, hi1, hi2⟩ := info_parts infoTap
  have hi' := Lib.hid hi
  have hi0' := Lib.hid hi0
  have hi1' := Lib.hid hi1
  have hi2' := Lib.hid hi2
  obtain ⟨j0, hj, hj0, hj1, hj2⟩ := info_parts infoI
  have hj' := Lib.hid hj
  have hj0' := Lib.hid hj0
  have hj1' := Lib.hid hj1
  have hj2' := Lib.hid hj2
  clear hi hi0 hi1 hi2 hj hj0 hj1 hj2
  have H0 : Hid (TabIn w (boxL n m s 0) (.slice none 0 0) [] w) := Lib.hid ⟨rfl, OwnT.nil _ _, bref _⟩
  have hs2 : IntKind.u64.wrap s = s := IntWalk.u64_in _ (by omega)
  have hbN := Lib.hid (one_bd hs)
  have HW1 : Hid (wrap64 (2 ^ s.toNat) = one s) := Lib.hid (by have := one_bd hs; unfold one at *; exact w64 (by omega))
  obtain ⟨mm, emm⟩ : ∃ mm : Nat, m = mm := ⟨m.toNat, by omega⟩
  subst emm
  have HNB := Lib.hid hn
  have HMB := Lib.hid hm
  obtain ⟨s0, s1⟩ := hs
  have hm0 : ¬ (mm : Int) = 0 := by omega
  clear hn
  go_enter Tryd.func18, Tryd.ntmps18
  go_wp2_with fail
  refine (rside_is HN.out _).mono ?_; rintro e w1 ⟨rfl, rfl⟩
  go_wp2_with fail
  refine (rside_is HM.out _).mono ?_; rintro e w1 ⟨rfl, rfl⟩
  go_wp2_with fail
  go_loopw [8, 9] (fun v i wr => ∃ (k : Nat) (V : List Tv), k ≤ mm ∧ i = .int .i64 k ∧ V.length = k ∧ Hid (boxOk n mm k = true) ∧ Hid (TabIn w (boxL n mm s k) v V wr)) (fun _ i _ => mm - (intOf i).toNat)
  case atStart => exact ⟨0, [], by omega, rfl, rfl, Lib.hid rfl, H0⟩
  case round =>
    clear H0
    obtain ⟨k, V, hk, rfl, rfl, HOk, HI⟩ := hrel
    by_cases hlt : V.length < mm
    · have hkI : (V.length : Int) < mm := by omega
      have q20 : wrap64 ((V.length : Int) + 1) = (V.length : Int) + 1 := w64 (by omega)
      have L1 := Lib.hid (show V.length + 1 ≤ maxLen by unfold maxLen; omega)
      have L2 := Lib.hid (show (V.length + 1) * 32 ≤ 140737488355328 by omega)
      have hlt' := Lib.hid hlt
      have hsucc := Lib.hid (show V.length + 1 ≤ mm by omega)
      have htn := Lib.hid (show V.length < (mm : Int).toNat by omega)
      obtain ⟨A, B, F, q1, q2, q3, q4, q5, q6, q7, q8, q9, q10⟩ := box_wraps (n := n) (m := mm) (i := V.length) HNB.out hm hkI
      obtain ⟨N, eN⟩ : ∃ N, boxN n mm V.length = N := ⟨_, rfl⟩
      rw [eN] at q6 q7 q9 q10
      have EN := Lib.hid eN
      have HQ9 := Lib.hid q9
      obtain ⟨KE, q11, q12⟩ := q10
      have HF := Lib.hid q8
      have HPL := Lib.hid (boxPs_len n mm V.length)
      obtain ⟨PL, ePL⟩ : ∃ PL, boxPs n mm V.length = PL := ⟨_, rfl⟩
      rw [ePL] at HPL
      have EPL := Lib.hid ePL
      clear q8 q9 eN ePL q4
      go_upto_region 12 with fail
      obtain ⟨q, eq⟩ : ∃ q, wr.heap.size = q := ⟨_, rfl⟩
      obtain ⟨wt, ewt⟩ : ∃ wt, wr.alloc (.cells #[.int .i64 F, .slice none 0 0] 31) = wt := ⟨_, rfl⟩
      have kq0 : Hid (wt.cell? ⟨q, 0, none⟩ = some (.int .i64 F) ∧ wt.cell? ⟨q, 1, none⟩ = some (.slice none 0 0) ∧ wt.frozen? ⟨q, 1, none⟩ = false) := Lib.hid (by
        rw [← ewt, ← eq]
        refine ⟨by rw [World.cell?_alloc_new]; rfl, by rw [World.cell?_alloc_new]; rfl, by simp⟩)
      have hqo := Lib.hid (show wr.heap.size ≤ q from Nat.le_of_eq eq)
      have hqt : Hid (q < wt.heap.size ∧ Below wr.heap.size wr wt) := Lib.hid (by rw [← ewt, ← eq]; exact ⟨by simp, balloc (bref _) _⟩)
      rw [eq]
      simp only [ewt]
      clear ewt eq
      have hc0 := kq0.out.1
      have HP0 : Hid (PartIn wt (.slice none 0 0) (PL.take 0) wt) := Lib.hid ⟨bref _, OwnL.nil _ _⟩
      have HB5 := Lib.hid q5
      have HB6 := Lib.hid q6
      have HB7 := Lib.hid q7
      have Hk := Lib.hid hk
      have HkI := Lib.hid hkI
      clear q5 q6 q7 q3 hk hkI hm
      go_upto_region 13 with fail
      (try simp only [q1, q2])
      (try go_wp2_with fail)
      clear q1 q2 hc0
      go_loopw [13, 14] (fun vp kk wr2 => ∃ j : Nat, Hid (j ≤ N) ∧ kk = .int .i64 (F + j) ∧ Hid (PartIn wt vp (PL.take j) wr2)) (fun _ kk _ => N - (intOf kk - F).toNat)
      case atStart => exact ⟨0, Lib.hid (Nat.zero_le _), by simp, HP0⟩
      case round =>
        clear HP0
        obtain ⟨j, hjN, rfl, HPI⟩ := hrel
        by_cases hltj : j < N
        · obtain ⟨KM, K1M, Q1, Q2, x, r1, r2, r3, r4, r5, r6, r7⟩ := HQ9.out j hltj
          have hjb := Lib.hid (show j ≤ 16640 from Nat.le_trans (Nat.le_of_lt hltj) HB7.out)
          have HTK := Lib.hid (show PL.take (j + 1) = PL.take j ++ [x] by rw [← EPL.out, boxPs_take (by rw [EN.out]; exact hltj), r7])
          obtain ⟨L, eL⟩ : ∃ L, PL.take j = L := ⟨_, rfl⟩
          have hLl : L.length = j := by rw [← eL, List.length_take, HPL.out, EN.out]; exact Nat.min_eq_left (Nat.le_of_lt hltj)
          rw [eL] at HPI HTK
          have hb0 := HB5.out
          have r0 : wrap64 (F + (j : Int) + 1) = F + (j : Int) + 1 := w64 (by have := hjb.out; omega)
          have M1 := Lib.hid (show L.length + 1 ≤ maxLen by unfold maxLen; have := hjb.out; omega)
          have M2 := Lib.hid (show (L.length + 1) * 8 ≤ 140737488355328 by have := hjb.out; omega)
          have M3 : Hid (∀ o : Obj, wt.heap.size ≤ (wr.alloc o).heap.size) := Lib.hid (fun o => by have := HPI.out.1.size; simp; omega)
          have HLL := Lib.hid hLl
          clear eL hLl hb0 r7
          go_wp2_with (at_builtin; go_must (refine wpList_append_lies _ rfl _ _ _ rfl wt.heap.size 3 j0 (.int .i64 0) 1 8 Tryd.underlying22 hj'.out hj0'.out hj1'.out hj2'.out rfl (by decide) u13 L.length (ints L) rfl (HPI.out.2.alloc _) ⟨wr.heap.size, 0, none⟩ 1 1 [.int .i64 x] rfl rfl (World.news_of_block (heap_alloc_new _ _)) (by intro u hu; simp at hu; subst hu; rfl) (by decide) M1.out M2.out (M3.out _) (wr.heap.size + 1) (by simp) ?_); intro g gc wB hown hgrow hat hlB)
          have HFF := Lib.hid ((HPI.out.below (balloc (bref wr) (.cells #[.int .i64 x] 3))).app hown hgrow)
          clear r1 r2 r3 r4 r5 r6
          go_roundw
          case rel => exact ⟨j + 1, Lib.hid hltj, by rw [r0]; exact congrArg (Value.int .i64) (by omega), by rw [HTK.out]; exact HFF⟩
          case measure => rw [r0]; simp only [intOf]; omega
        · have hjE : j = N := Nat.le_antisymm hjN.out (Nat.le_of_not_lt hltj)
          subst hjE
          have HTE := Lib.hid (show PL.take j = PL by rw [← EN.out, ← HPL.out]; exact List.take_length)
          rw [HTE.out] at HPI
          obtain ⟨pa, pc, rfl, hps⟩ := HPI.out.2.slice
          have HPS := Lib.hid hps
          have HPN := Lib.hid (show PL.length = j by rw [HPL.out]; exact EN.out)
          rw [HPN.out]
          have HQC := Lib.hid (show wr.cell? ⟨q, 0, none⟩ = some (.int .i64 F) ∧ wr.cell? ⟨q, 1, none⟩ = some (.slice none 0 0) ∧ wr.frozen? ⟨q, 1, none⟩ = false from ⟨bkeep HPI.out.1 kq0.out.1, bkeep HPI.out.1 kq0.out.2.1, by rw [HPI.out.1.frozen (p := ⟨q, 1, none⟩) hqt.out.1]; exact kq0.out.2.2⟩)
          clear hps hltj
          by_cases h8 : (8 : Int) < j
          · have HZ := Lib.hid (show boxC n mm s = 9 by rw [HCE.out, boxOk_no htn.out (by rw [EN.out]; omega)]; rfl)
            have HBB := Lib.hid (bthen (bthen HI.out.2.2 hqt.out.2) HPI.out.1)
            go_wp2_with fail
            go_returns
            rw [← HC.out, HZ.out]
            exact tab_nil (by rw [← HT.out]; unfold boxT; rw [HZ.out]; rfl) HBB.out
          · have h8n : boxN n mm V.length ≤ 8 := by rw [EN.out]; omega
            have HOk2 := Lib.hid (boxOk_step HOk.out h8n)
            have HPO := Lib.hid (show PartsOk PL by rw [← EPL.out]; exact boxPs_ok HNB.out HMB.out HkI.out h8n)
            obtain ⟨S1, eS1⟩ : ∃ S1, one s = S1 := ⟨_, rfl⟩
            have hN1 : wrap64 (2 ^ s.toNat) = S1 := by rw [HW1.out, eS1]
            have hSb := Lib.hid (show 0 ≤ S1 ∧ S1 ≤ 16384 by have := hbN.out; rw [eS1] at this; exact ⟨Int.le_trans (by decide) this.1, this.2⟩)
            obtain ⟨D, eD⟩ : ∃ D, divL S1 PL = D := ⟨_, rfl⟩
            have ED := Lib.hid eD
            have HBT := Lib.hid (show boxL n mm s (V.length + 1) = boxL n mm s V.length ++ [⟨F, D⟩] by rw [boxL_step]; unfold boxTap; rw [HF.out, EPL.out, eS1, eD])
            clear h8n eS1 eD
            go_wp2_with fail
            refine (rdivide_l HPN.out ED.out _ _ _ HPS.out HPO.out hSb.out).mono ?_; rintro e w5 ⟨g, c, rfl, hpx, hdl, hb5⟩
            have HQ5 := Lib.hid (show w5.cell? ⟨q, 0, none⟩ = some (.int .i64 F) ∧ w5.cell? ⟨q, 1, none⟩ = some (.slice none 0 0) ∧ w5.frozen? ⟨q, 1, none⟩ = false from ⟨bkeep hb5 HQC.out.1, bkeep hb5 HQC.out.2.1, by rw [hb5.frozen (p := ⟨q, 1, none⟩) (World.block_lt_of_cell? _ _ HQC.out.2.1)]; exact HQC.out.2.2⟩)
            have hq5 := World.block_lt_of_cell? _ _ HQC.out.2.1
            have hgq : ¬ g = q := Nat.ne_of_gt (Nat.lt_of_lt_of_le hq5 hpx.lt.1)
            have HgW := Lib.hid (Nat.le_trans (bthen hqt.out.2 HPI.out.1).size hpx.lt.1)
            have HB5 := Lib.hid (bthen (bthen hqt.out.2 HPI.out.1) hb5)
            have HPX := Lib.hid hpx
            have HDL := Lib.hid hdl
            have k0 := HQ5.out.1
            have k1 := HQ5.out.2.1
            have kf := HQ5.out.2.2
            clear hb5 hpx hdl hq5
            go_upto_region 19 with fail
            obtain ⟨wz, ewz⟩ : ∃ wz, w5.setCell ⟨q, 1, none⟩ (.slice (some ⟨g, 0, none⟩) j c) = wz := ⟨_, rfl⟩
            have HBZ := Lib.hid (show Below _ _ wz by rw [← ewz]; exact HB5.out.setCell (p := ⟨q, 1, none⟩) hqo.out _)
            have HSZ := Lib.hid (show SliceIs wz (some ⟨g, 0, none⟩) D ∧ g < wz.heap.size by
              rw [← ewz]
              have := HPX.out.grown (grown_set w5 q 1 (.slice (some ⟨g, 0, none⟩) j c)) (fun e => hgq (Option.some.inj e))
              exact ⟨this.isS, this.lt.2⟩)
            have z0 : wz.cell? ⟨q, 0, none⟩ = some (.int .i64 F) := by rw [← ewz, World.cell?_setCell_other _ _ _ _ (by simp)]; exact k0
            have z1 : wz.cell? ⟨q, 1, none⟩ = some (.slice (some ⟨g, 0, none⟩) j c) := by rw [← ewz]; exact World.cell?_setCell_same _ _ _ k1
            rw [ewz]
            clear ewz k0 k1 kf HB5 HPX HQ5 hN1
            have HIz := Lib.hid (HI.out.below HBZ.out)
            have L3 : Hid (∀ o : Obj, w.heap.size ≤ (wz.alloc o).heap.size) := Lib.hid (fun o => Nat.le_trans HIz.out.2.2.size (balloc (bref wz) o).size)
            go_wp2_with (at_builtin; go_must (refine wpList_append_lies _ rfl _ _ _ rfl w.heap.size 31 i0 (.agg #[.int .i64 0, .slice none 0 0]) 2 32 Tryd.underlying23 hi'.out hi0'.out hi1'.out hi2'.out rfl (by decide) u8 V.length (flatT V) rfl (HIz.out.2.1.1.alloc _) ⟨wz.heap.size, 0, none⟩ 1 1 [.int .i64 F, .slice (some ⟨g, 0, none⟩) j c] rfl rfl (World.news_of_block (heap_alloc_new _ _)) (by intro u hu; simp at hu; rcases hu with rfl | rfl <;> rfl) (by decide) L1.out L2.out (L3.out _) (wz.heap.size + 1) (by simp) ?_); intro g2 gc2 wB hown hgrow hat hlB)
            have HF2 := Lib.hid (HI.out.app (t := ⟨F, some ⟨g, 0, none⟩, c, D⟩) (bthen HBZ.out (balloc (bref wz) (.cells #[.int .i64 F, .slice (some ⟨g, 0, none⟩) j c] 31))) (by rw [flatT_one]; simp only [Tv.val]; rw [HDL.out]; exact hown) hgrow hat rfl (by simp) (is_below HSZ.out.1 (balloc (bref _) _)) (fun b o s e => by
              cases e
              exact ⟨HgW.out, Nat.lt_of_lt_of_le HSZ.out.2 (balloc (bref wz) _).size⟩))
            go_roundw
            case rel => exact ⟨V.length + 1, V ++ [⟨F, some ⟨g, 0, none⟩, c, D⟩], hsucc.out, by go_num, by simp, HOk2, by rw [HBT.out]; exact HF2⟩
            case measure => (try rw [q20]); exact down_meas hlt'.out
    · obtain rfl : V.length = mm := by omega
      have HZ := Lib.hid (show boxC n (V.length : Int) s = 0 by rw [HCE.out, show ((V.length : Int)).toNat = V.length by omega, HOk.out]; rfl)
      go_wp2_with fail
      go_returns
      rw [← HC.out, HZ.out]
      refine ⟨_, V, rfl, ?_, HI.out.2⟩
      rw [HI.out.1, ← HT.out]
      unfold boxT
      rw [HZ.out, if_pos rfl]
      simp
theorem rbox_any (n m s : Int) (w : World) : Calls Tryd.prog 18 #[.int .i64 n, .int .i64 m, .int .i64 s] w (TabPost (boxT n m s) (boxC n m s) w) := by
  have hno : ∀ c, makeC n m s = c → c ≠ 0 → boxC n m s = c ∧ boxT n m s = [] := fun c h h0 => by
    have e : boxC n m s = c := by unfold boxC; rw [h, if_pos h0]
    exact ⟨e, by unfold boxT; rw [e, if_neg h0]⟩
  rcases make_cases n m s with ⟨h1, hc⟩ | ⟨h1, h2, hc⟩ | ⟨h1, h2, h3, hc⟩ | ⟨h1, h2, h3, hc⟩ | ⟨h1, h2, h3, hc⟩
  · obtain ⟨hC, hT⟩ := hno 8 hc (by decide)
    have HT := Lib.hid hT
    have H1 := Lib.hid h1
    rw [hC]
    clear hC hT hc h1 hno
    go_enter Tryd.func18, Tryd.ntmps18
    go_wp2_with fail
    refine (rside_is H1.out _).mono ?_; rintro e w1 ⟨rfl, rfl⟩
    go_wp2_with fail
    go_returns
    exact tab_nil HT.out (bref _)
  · obtain ⟨hC, hT⟩ := hno 8 hc (by decide)
    have HT := Lib.hid hT
    have H1 := Lib.hid h1
    have H2 := Lib.hid h2
    rw [hC]
    clear hC hT hc h1 h2 hno
    go_enter Tryd.func18, Tryd.ntmps18
    go_wp2_with fail
    refine (rside_is H1.out _).mono ?_; rintro e w1 ⟨rfl, rfl⟩
    go_wp2_with fail
    refine (rside_is H2.out _).mono ?_; rintro e w1 ⟨rfl, rfl⟩
    go_wp2_with fail
    go_returns
    exact tab_nil HT.out (bref _)
  · obtain ⟨hC, hT⟩ := hno 2 hc (by decide)
    have HT := Lib.hid hT
    have H1 := Lib.hid h1
    have H2 := Lib.hid h2
    rw [hC]
    clear hC hT hc h1 h2 hno
    go_enter Tryd.func18, Tryd.ntmps18
    go_wp2_with fail
    refine (rside_is H1.out _).mono ?_; rintro e w1 ⟨rfl, rfl⟩
    go_wp2_with fail
    refine (rside_is H2.out _).mono ?_; rintro e w1 ⟨rfl, rfl⟩
    go_wp2_with fail
    go_returns
    exact tab_nil HT.out (bref _)
  · obtain ⟨hC, hT⟩ := hno 2 hc (by decide)
    have HT := Lib.hid hT
    have H1 := Lib.hid h1
    have H2 := Lib.hid h2
    rw [hC]
    clear hC hT hc h1 h2 hno
    go_enter Tryd.func18, Tryd.ntmps18
    go_wp2_with fail
    refine (rside_is H1.out _).mono ?_; rintro e w1 ⟨rfl, rfl⟩
    go_wp2_with fail
    refine (rside_is H2.out _).mono ?_; rintro e w1 ⟨rfl, rfl⟩
    go_wp2_with fail
    go_returns
    exact tab_nil HT.out (bref _)
  · exact rbox_in n m s _ _ w (sideT_t.1 h1) (sideT_t.1 h2) h3 (Lib.hid rfl) (Lib.hid rfl)
end Go.Proofs.YtjmdpebocchdhaaDoor
