/- For all ints the statement TablesSums returns true: the weights of each tap of box and linear tables add up to the power of two, the tables are valid, box taps are ascending and stay within the source. Conditions: the table math/bits.deBruijn64tab holds what the program's text lays in it (tied). -/
import Derived.Test.YtjmdpebocchdhaaDoorTSane
import Derived.Test.YtjmdpebocchdhaaDoorTMakeKit
namespace Go.Proofs.YtjmdpebocchdhaaDoor
open Go.ChangeShapes Go.WideShapes Go.ChangeAt Go.RowKit
set_option linter.unusedVariables false
set_option linter.unusedSimpArgs false

/-- the same in the walk's own spelling -/
theorem iwrap {n r : Int} (h : wrap64 n = r) : IntKind.i64.wrap n = r := by rw [IntKind.wrap_i64]; unfold wrap64 at h; exact h
/-- a tap of few small weights with a known sum -/
def TapOk (P : Int) (T : List Tp) (k : Nat) (f : Int) (L : List Int) : Prop := T[k]? = some ⟨f, L⟩ ∧ L.sum = P ∧ L.length ≤ 8 ∧ ∀ z ∈ L, -32767 ≤ z ∧ z ≤ 32767
/-- a box tap within its source, behind the one before it -/
def BoxTapOk (P x : Int) (T : List Tp) (k : Nat) (f : Int) (L : List Int) : Prop := TapOk P T k f L ∧ 0 ≤ f ∧ f ≤ 128 ∧ f + L.length ≤ x ∧ ∀ j : Nat, k = j + 1 → ∃ f0 L0, T[j]? = some ⟨f0, L0⟩ ∧ f0 ≤ f
theorem take_bd {L : List Int} (h : ∀ z ∈ L, -32767 ≤ z ∧ z ≤ 32767) (j : Nat) : -(32767 * (j : Int)) ≤ (L.take j).sum ∧ (L.take j).sum ≤ 32767 * j := by
  induction L generalizing j with
  | nil => simp; omega
  | cons a L ih =>
    cases j with
    | zero => simp
    | succ j =>
      have h1 := h a (by simp)
      have h2 := ih (fun z hz => h z (by simp [hz])) j
      simp only [List.take_succ_cons, List.sum_cons]
      omega
theorem sum_step {L : List Int} {j : Nat} (hj : j < L.length) : (L.take (j + 1)).sum = (L.take j).sum + L.getD j 0 := by
  rw [List.take_succ_eq_append_getElem hj, List.sum_append, List.getD_eq_getElem?_getD, List.getElem?_eq_getElem hj]; simp
theorem tapE_in {t : Tp} (h : tapE t = 0) : t.L.length ≤ 8 ∧ ∀ z ∈ t.L, -32767 ≤ z ∧ z ≤ 32767 := by
  unfold tapE at h
  by_cases g : t.L.length = 0 ∨ 8 < t.L.length
  · rw [if_pos g] at h; omega
  · rw [if_neg g] at h
    refine ⟨by omega, fun z hz => ?_⟩
    by_cases g2 : t.L.all weightB = false
    · rw [if_pos g2] at h; omega
    · have g3 : t.L.all weightB = true := by simpa using g2
      rw [List.all_eq_true] at g3
      exact weightB_t.1 (g3 z hz)
theorem lin_taps {n m s : Int} (hn : 1 ≤ n ∧ n ≤ 128) (hm : 1 ≤ m ∧ m ≤ 128) (hs : 0 ≤ s ∧ s ≤ 14) : makeC n m s = 0 ∧ (linT n m s).length = m.toNat ∧ validC (linT n m s) n = 0 ∧ ∀ k : Nat, k < m.toNat → ∃ f L, TapOk (one s) (linT n m s) k f L := by
  have hc : makeC n m s = 0 := by unfold makeC; rw [sideT_t.2 hn, sideT_t.2 hm, if_neg (by simp), if_neg (by omega)]
  have e : linT n m s = linL n m s m.toNat := by unfold linT; rw [hc, if_pos rfl]
  rw [e]
  refine ⟨hc, linL_len _ _ _ _, lin_valid hn hm hs, fun k hk => ?_⟩
  obtain ⟨h1, h2, h3⟩ := lin_tap hn hm hs (i := k) (by omega)
  obtain ⟨h4, h5⟩ := tapE_in h3
  refine ⟨(linTap n m s k).f, (linTap n m s k).L, ?_, h1, h4, h5⟩
  unfold linL
  rw [List.getElem?_map, List.getElem?_range hk]; rfl
theorem box_taps {n m s : Int} (hn : 1 ≤ n ∧ n ≤ 128) (hm : 1 ≤ m ∧ m ≤ 128) (hs : 0 ≤ s ∧ s ≤ 14) : (boxC n m s = 9 ∧ boxT n m s = []) ∨ (boxC n m s = 0 ∧ (boxT n m s).length = m.toNat ∧ validC (boxT n m s) n = 0 ∧ ∀ k : Nat, k < m.toNat → ∃ f L, BoxTapOk (one s) n (boxT n m s) k f L) := by
  have hc : makeC n m s = 0 := by unfold makeC; rw [sideT_t.2 hn, sideT_t.2 hm, if_neg (by simp), if_neg (by omega)]
  by_cases h : boxOk n m m.toNat = true
  · right
    have hb : boxC n m s = 0 := by unfold boxC; rw [hc, if_neg (by simp), h]; rfl
    have e : boxT n m s = boxL n m s m.toNat := by unfold boxT; rw [hb, if_pos rfl]
    rw [e]
    have at_ : ∀ k : Nat, k < m.toNat → (boxL n m s m.toNat)[k]? = some (boxTap n m s k) := fun k hk => by
      unfold boxL
      rw [List.getElem?_map, List.getElem?_range hk]; rfl
    refine ⟨hb, boxL_len _ _ _ _, box_valid hn hm hs h, fun k hk => ?_⟩
    have h8 := boxOk_at h hk
    obtain ⟨h1, h2, h3⟩ := box_tap hn hm hs (i := k) (by omega) h8
    obtain ⟨h4, h5⟩ := tapE_in h3
    have h6 := box_in hn hm (i := k) (by omega)
    refine ⟨boxF n m k, (boxTap n m s k).L, ⟨at_ k hk, h1, h4, h5⟩, h6.1, by omega, by rw [h2]; exact h6.2, fun j hj => ?_⟩
    subst hj
    refine ⟨boxF n m j, (boxTap n m s j).L, at_ j (by omega), ?_⟩
    have := box_up (i := j) hn.1 hm.1
    rw [show (((j + 1 : Nat) : Int)) = (j : Int) + 1 by omega]
    exact this
  · left
    have hb : boxC n m s = 9 := by unfold boxC; rw [hc, if_neg (by simp), if_neg h]
    exact ⟨hb, by unfold boxT; rw [hb, if_neg (by decide)]⟩
set_option maxRecDepth 100000 in
set_option maxHeartbeats 4000000 in
theorem sums_ok (n m sh a0 d0 x s P : Int) (ln : Nat) (T1 T2 : List Tp) (w : World) (f0 : Hid (-9223372036854775808 ≤ n ∧ n ≤ 9223372036854775807)) (f1 : Hid (-9223372036854775808 ≤ m ∧ m ≤ 9223372036854775807)) (f2 : Hid (-9223372036854775808 ≤ sh ∧ sh ≤ 9223372036854775807))
    (E1 : Hid (n % 40 = a0)) (E2 : Hid (m % 40 = d0)) (E3 : Hid (sh % 15 = s)) (e1 : wrap64 (1 + a0) = x) (e2 : wrap64 (1 + d0) = (ln : Int))
    (hT1 : Hid (boxT x ln s = T1)) (hC1 : Hid (boxC x ln s = 0)) (hT2 : Hid (linT x ln s = T2)) (hC2 : Hid (makeC x ln s = 0)) (l1 : Hid (T1.length = ln)) (l2 : Hid (T2.length = ln)) (v1 : Hid (validC T1 x = 0)) (v2 : Hid (validC T2 x = 0))
    (k1 : Hid (∀ k : Nat, k < ln → ∃ f L, BoxTapOk P x T1 k f L)) (k2 : Hid (∀ k : Nat, k < ln → ∃ f L, TapOk P T2 k f L)) (eP : Hid (wrap64 (2 ^ s.toNat) = P)) (h1 : 1 ≤ ln) (hs : Hid (0 ≤ s ∧ s ≤ 14)) (hn : Hid (ln ≤ 40)) (hx : Hid (1 ≤ x ∧ x ≤ 40)) (HT : Hid (TabZ w)) :
    Calls Tryd.prog 6 #[.int .i64 n, .int .i64 m, .int .i64 sh] w (TestPost true w) := by
  have HB := Lib.hid (bref w)
  go_enter Tryd.func6, Tryd.ntmps6
  go_wp2_with fail
  refine (mod_rng _ _ _ (by decide) (by decide) f0.out.1 f0.out.2 E1.out).mono ?_; rintro e w1 ⟨rfl, rfl⟩
  go_wp2_with fail
  refine (mod_rng _ _ _ (by decide) (by decide) f1.out.1 f1.out.2 E2.out).mono ?_; rintro e w1 ⟨rfl, rfl⟩
  go_wp2_with fail
  refine (mod_rng _ _ _ (by decide) (by decide) f2.out.1 f2.out.2 E3.out).mono ?_; rintro e w1 ⟨rfl, rfl⟩
  go_wp2_with fail
  refine (tbox_any _ _ _ _).mono ?_; rintro e w1 ⟨t1, V1, rfl, hV1, hO1, hb⟩
  rw [hT1.out] at hV1
  rw [hC1.out]
  obtain ⟨g1, c1, rfl, hS1, hA1⟩ := tap_at hO1 hV1 (by rw [l1.out]; exact h1)
  rw [l1.out]
  have HV1 := Lib.hid hV1
  have HS1 := Lib.hid hS1
  have HA1 := Lib.hid hA1
  have HB1 := Lib.hid (bthen HB.out hb)
  clear HB hb hO1 hV1 hA1 hS1
  go_wp2_with fail
  refine (tlin_any _ _ _ _).mono ?_; rintro e w2 ⟨t2, V2, rfl, hV2, hO2, hb⟩
  rw [hT2.out] at hV2
  rw [hC2.out]
  obtain ⟨g2, c2, rfl, hS2, hA2⟩ := tap_at hO2 hV2 (by rw [l2.out]; exact h1)
  rw [l2.out]
  have HV2 := Lib.hid hV2
  have HS2 := Lib.hid hS2
  have HS1' := Lib.hid (taps_below HS1.out hb)
  have HA2 := Lib.hid hA2
  have HB2 := Lib.hid (bthen HB1.out hb)
  have HN2 := Lib.hid hb
  clear HB1 hb hO2 hV2 hA2 hS2 HS1
  go_wp2_with fail
  refine (tvalid_any V2 x _ _ ln 0 _ HS2.out (by have := congrArg List.length HV2.out; rw [l2.out] at this; simpa using this) (by have := hn.out; omega) (by rw [HV2.out]; exact v2.out)).mono ?_; rintro e w3 ⟨rfl, hb⟩
  have HN3 := Lib.hid hb
  have HS1 := Lib.hid (taps_below HS1'.out hb)
  clear hb HS1' HS2
  go_wp2_with fail
  refine (tvalid_any V1 x _ _ ln 0 _ HS1.out (by have := congrArg List.length HV1.out; rw [l1.out] at this; simpa using this) (by have := hn.out; omega) (by rw [HV1.out]; exact v1.out)).mono ?_; rintro e w4 ⟨rfl, hb⟩
  have HN4 := Lib.hid (bthen HN3.out hb)
  have HB4 := Lib.hid (bthen HB2.out HN4.out)
  clear hb HS1 HN3 e1 e2
  go_wp2_with fail
  go_loopw [14] (fun i wr => ∃ k : Nat, k ≤ ln ∧ i = .int .i64 k ∧ Hid (Below w4.heap.size w4 wr)) (fun i _ => ln - (intOf i).toNat)
  case atStart => exact ⟨0, by omega, rfl, Lib.hid (bref _)⟩
  case round =>
    obtain ⟨k, hkl, rfl, HI⟩ := hrel
    by_cases hlt : k < ln
    · have hkI : (k : Int) < ln := by omega
      obtain ⟨fa, LA, ⟨qa1, qa2, qa3, qa4⟩, qa5, qa6, qa7, qa8⟩ := k1.out k hlt
      obtain ⟨fb, LB, qb1, qb2, qb3, qb4⟩ := k2.out k hlt
      obtain ⟨ya1, ada, ca, ya2, sa⟩ := HA1.out k fa LA qa1
      obtain ⟨yb1, adb, cb, yb2, sb⟩ := HA2.out k fb LB qb1
      have HM2 := Lib.hid (bthen HN4.out HI.out)
      have HM1 := Lib.hid (bthen HN2.out HM2.out)
      have z1 := bkeep HM1.out ya1
      have z2 := bkeep HM1.out ya2
      have z3 := bkeep HM2.out yb1
      have z4 := bkeep HM2.out yb2
      have SA := Lib.hid (is_below sa HM1.out)
      have SB := Lib.hid (is_below sb HM2.out)
      have q4 : k + 1 ≤ ln := hlt
      have WA : Hid (∀ j : Nat, j < LA.length → wrap64 ((j : Int) + 1) = (j : Int) + 1 ∧ (j : Int) < LA.length ∧ wrap64 ((LA.take j).sum + LA.getD j 0) = (LA.take (j + 1)).sum) := Lib.hid (fun j hj => ⟨by unfold wrap64; omega, by omega, by
        have b := take_bd qa4 (j + 1)
        rw [← sum_step hj]; unfold wrap64; omega⟩)
      have WB : Hid (∀ j : Nat, j < LB.length → wrap64 ((j : Int) + 1) = (j : Int) + 1 ∧ (j : Int) < LB.length ∧ wrap64 ((LB.take j).sum + LB.getD j 0) = (LB.take (j + 1)).sum) := Lib.hid (fun j hj => ⟨by unfold wrap64; omega, by omega, by
        have b := take_bd qb4 (j + 1)
        rw [← sum_step hj]; unfold wrap64; omega⟩)
      have XA : Hid (wrap64 (fa + LA.length) = fa + LA.length ∧ decide (x < fa + LA.length) = false ∧ decide (fa < 0) = false ∧ ¬ fa < 0 ∧ ¬ x < fa + LA.length ∧ IntKind.i64.wrap (fa + LA.length) = fa + LA.length) := Lib.hid ⟨by unfold wrap64; omega, by simp; omega, by simp; omega, by omega, by omega, iwrap (by unfold wrap64; omega)⟩
      have YA : Hid (∀ j : Nat, k = j + 1 → ∃ f0 L0, T1[j]? = some ⟨f0, L0⟩ ∧ decide (fa < f0) = false ∧ ¬ fa < f0 ∧ wrap64 ((k : Int) - 1) = j ∧ (0 : Int) < k ∧ (j : Int) < ln) := Lib.hid (fun j hj => by
        obtain ⟨f0, L0, e0, h0⟩ := qa8 j hj
        have hl := hn.out
        clear SA SB z1 z2 z3 z4
        exact ⟨f0, L0, e0, by simp; omega, by omega, by unfold wrap64; omega, by omega, by omega⟩)
      have q1 : wrap64 ((k : Int) + 1) = (k : Int) + 1 := by have := hn.out; unfold wrap64; omega
      have SUA := Lib.hid qa2
      have SUB := Lib.hid qb2
      obtain ⟨na, ena⟩ : ∃ na, LA.length = na := ⟨_, rfl⟩
      obtain ⟨nb, enb⟩ : ∃ nb, LB.length = nb := ⟨_, rfl⟩
      have NA := Lib.hid ena
      have NB := Lib.hid enb
      rw [ena] at z2 WA XA
      rw [enb] at z4 WB
      clear ya1 ya2 yb1 yb2 sa sb qa1 qa2 qa3 qa4 qa5 qa6 qa7 qa8 qb1 qb2 qb3 qb4 ena enb
      go_wp2_with fail
      go_loop [15, 17] (fun p i => ∃ j : Nat, j ≤ nb ∧ i = .int .i64 j ∧ p = .int .i64 (LB.take j).sum) (fun _ i => nb - (intOf i).toNat)
      case atStart => exact ⟨0, by omega, rfl, rfl⟩
      case round =>
        obtain ⟨j, hj, rfl, rfl⟩ := hrel
        by_cases hj2 : j < nb
        · obtain ⟨b, off, rfl, hc⟩ := SB.out j (by rw [NB.out]; exact hj2)
          obtain ⟨u1, u2, u3⟩ := WB.out j hj2
          obtain ⟨v, ev⟩ : ∃ v, LB.getD j 0 = v := ⟨_, rfl⟩
          rw [ev] at hc u3
          clear ev
          have u4 : j + 1 ≤ nb := hj2
          have u5 := down_meas hj2
          go_wp2_with fail
          exact ⟨⟨j + 1, u4, by rw [u1]; exact congrArg (Value.int .i64) (by omega), by rw [u3]⟩, by rw [u1]; exact u5⟩
        · obtain rfl : j = nb := by omega
          have eb : (LB.take j).sum = P := by rw [← NB.out, List.take_length]; exact SUB.out
          rw [eb]
          clear eb hj2 hj
          go_wp2_with fail
          go_loop [16, 18] (fun p i => ∃ j : Nat, j ≤ na ∧ i = .int .i64 j ∧ p = .int .i64 (LA.take j).sum) (fun _ i => na - (intOf i).toNat)
          case atStart => exact ⟨0, by omega, rfl, rfl⟩
          case round =>
            obtain ⟨j, hj, rfl, rfl⟩ := hrel
            by_cases hj2 : j < na
            · obtain ⟨b, off, rfl, hc⟩ := SA.out j (by rw [NA.out]; exact hj2)
              obtain ⟨u1, u2, u3⟩ := WA.out j hj2
              obtain ⟨v, ev⟩ : ∃ v, LA.getD j 0 = v := ⟨_, rfl⟩
              rw [ev] at hc u3
              clear ev
              have u4 : j + 1 ≤ na := hj2
              have u5 := down_meas hj2
              go_wp2_with fail
              exact ⟨⟨j + 1, u4, by rw [u1]; exact congrArg (Value.int .i64) (by omega), by rw [u3]⟩, by rw [u1]; exact u5⟩
            · obtain rfl : j = na := by omega
              have ea : (LA.take j).sum = P := by rw [← NA.out, List.take_length]; exact SUA.out
              rw [ea]
              obtain ⟨xa1, xa2, xa3, xa4, xa5, xa6⟩ := XA.out
              have ePx := eP.out
              have p1 : IntKind.u64.wrap s = s := IntWalk.u64_in _ (by have := hs.out; omega)
              have p2 : min s.toNat 64 = s.toNat := by have := hs.out; omega
              have p3 : IntKind.i64.wrap (2 ^ s.toNat) = P := iwrap eP.out
              have hs' := hs.out
              clear ea hj2 hj
              by_cases hk0 : k = 0
              · subst hk0
                go_wp2_with fail
                go_quiet (fail)
                go_wp2_with fail
                exact ⟨⟨1, q4, rfl, Lib.hid (bdrewN HI.out _)⟩, down_meas hlt⟩
              · obtain ⟨k0, ek⟩ : ∃ k0, k = k0 + 1 := ⟨k - 1, by clear q1 ePx xa1; omega⟩
                obtain ⟨f0', L0, x0, x2, x3, x4, x5, x6⟩ := YA.out k0 ek
                obtain ⟨y0, -⟩ := HA1.out k0 f0' L0 x0
                have z0 := bkeep HM1.out y0
                have x7 := iwrap x4
                have x8 : 0 < k := by rw [ek]; exact Nat.succ_pos _
                clear x0 y0 ek hk0 x4
                go_wp2_with fail
                go_quiet (fail)
                go_wp2_with fail
                exact ⟨⟨k + 1, q4, by rw [q1]; exact congrArg (Value.int .i64) (by omega), Lib.hid (bdrewN HI.out _)⟩, by rw [q1]; exact down_meas hlt⟩
    · obtain rfl : k = ln := by omega
      go_wp2_with fail
      refine (sane_is _ (HT.out.below (bthen HB4.out HI.out))).mono ?_; rintro e w4 ⟨rfl, hb⟩
      have HB5 := Lib.hid (bthen (bthen HB4.out HI.out) hb)
      clear hb
      go_wp2_with fail
      go_returns
      exact ⟨rfl, HB5.out⟩
set_option maxRecDepth 100000 in
set_option maxHeartbeats 4000000 in
theorem sums_no (n m sh a0 d0 x s P : Int) (ln : Nat) (T2 : List Tp) (w : World) (f0 : Hid (-9223372036854775808 ≤ n ∧ n ≤ 9223372036854775807)) (f1 : Hid (-9223372036854775808 ≤ m ∧ m ≤ 9223372036854775807)) (f2 : Hid (-9223372036854775808 ≤ sh ∧ sh ≤ 9223372036854775807))
    (E1 : Hid (n % 40 = a0)) (E2 : Hid (m % 40 = d0)) (E3 : Hid (sh % 15 = s)) (e1 : wrap64 (1 + a0) = x) (e2 : wrap64 (1 + d0) = (ln : Int))
    (hT1 : Hid (boxT x ln s = [])) (hC1 : Hid (boxC x ln s = 9)) (hT2 : Hid (linT x ln s = T2)) (hC2 : Hid (makeC x ln s = 0)) (l2 : Hid (T2.length = ln)) (v2 : Hid (validC T2 x = 0))
    (k2 : Hid (∀ k : Nat, k < ln → ∃ f L, TapOk P T2 k f L)) (eP : Hid (wrap64 (2 ^ s.toNat) = P)) (h1 : 1 ≤ ln) (hs : Hid (0 ≤ s ∧ s ≤ 14)) (hn : Hid (ln ≤ 40)) (hx : Hid (1 ≤ x ∧ x ≤ 40)) (HT : Hid (TabZ w)) :
    Calls Tryd.prog 6 #[.int .i64 n, .int .i64 m, .int .i64 sh] w (TestPost true w) := by
  have HB := Lib.hid (bref w)
  go_enter Tryd.func6, Tryd.ntmps6
  go_wp2_with fail
  refine (mod_rng _ _ _ (by decide) (by decide) f0.out.1 f0.out.2 E1.out).mono ?_; rintro e w1 ⟨rfl, rfl⟩
  go_wp2_with fail
  refine (mod_rng _ _ _ (by decide) (by decide) f1.out.1 f1.out.2 E2.out).mono ?_; rintro e w1 ⟨rfl, rfl⟩
  go_wp2_with fail
  refine (mod_rng _ _ _ (by decide) (by decide) f2.out.1 f2.out.2 E3.out).mono ?_; rintro e w1 ⟨rfl, rfl⟩
  go_wp2_with fail
  refine (tbox_any _ _ _ _).mono ?_; rintro e w1 ⟨t1, V1, rfl, hV1, hO1, hb⟩
  rw [hT1.out] at hV1
  rw [hC1.out]
  obtain ⟨a1, c1, rfl, -⟩ := hO1.taps
  obtain rfl : V1 = [] := by simpa using hV1
  rw [show ([] : List Tv).length = 0 from rfl]
  have HB1 := Lib.hid (bthen HB.out hb)
  clear HB hb hO1 hV1
  go_wp2_with fail
  refine (tlin_any _ _ _ _).mono ?_; rintro e w2 ⟨t2, V2, rfl, hV2, hO2, hb⟩
  rw [hT2.out] at hV2
  rw [hC2.out]
  obtain ⟨g2, c2, rfl, hS2, hA2⟩ := tap_at hO2 hV2 (by rw [l2.out]; exact h1)
  rw [l2.out]
  have HV2 := Lib.hid hV2
  have HS2 := Lib.hid hS2
  have HA2 := Lib.hid hA2
  have HB2 := Lib.hid (bthen HB1.out hb)
  clear HB1 hb hO2 hV2 hA2 hS2
  go_wp2_with fail
  refine (tvalid_any V2 x _ _ ln 0 _ HS2.out (by have := congrArg List.length HV2.out; rw [l2.out] at this; simpa using this) (by have := hn.out; omega) (by rw [HV2.out]; exact v2.out)).mono ?_; rintro e w4 ⟨rfl, hb⟩
  have HN4 := Lib.hid hb
  have HB4 := Lib.hid (bthen HB2.out hb)
  clear hb HS2 e1 e2
  go_wp2_with fail
  go_loopw [14] (fun i wr => ∃ k : Nat, k ≤ ln ∧ i = .int .i64 k ∧ Hid (Below w4.heap.size w4 wr)) (fun i _ => ln - (intOf i).toNat)
  case atStart => exact ⟨0, by omega, rfl, Lib.hid (bref _)⟩
  case round =>
    obtain ⟨k, hkl, rfl, HI⟩ := hrel
    by_cases hlt : k < ln
    · have hkI : (k : Int) < ln := by omega
      obtain ⟨fb, LB, qb1, qb2, qb3, qb4⟩ := k2.out k hlt
      obtain ⟨yb1, adb, cb, yb2, sb⟩ := HA2.out k fb LB qb1
      have HM2 := Lib.hid (bthen HN4.out HI.out)
      have z3 := bkeep HM2.out yb1
      have z4 := bkeep HM2.out yb2
      have SB := Lib.hid (is_below sb HM2.out)
      have q4 : k + 1 ≤ ln := hlt
      have q5 : ¬ (k : Int) < 0 := by omega
      have q6 : decide ((k : Int) < 0) = false := by simp <;> omega
      have WB : Hid (∀ j : Nat, j < LB.length → wrap64 ((j : Int) + 1) = (j : Int) + 1 ∧ (j : Int) < LB.length ∧ wrap64 ((LB.take j).sum + LB.getD j 0) = (LB.take (j + 1)).sum) := Lib.hid (fun j hj => ⟨by unfold wrap64; omega, by omega, by
        have b := take_bd qb4 (j + 1)
        rw [← sum_step hj]; unfold wrap64; omega⟩)
      have q1 : wrap64 ((k : Int) + 1) = (k : Int) + 1 := by have := hn.out; unfold wrap64; omega
      have SUB := Lib.hid qb2
      obtain ⟨nb, enb⟩ : ∃ nb, LB.length = nb := ⟨_, rfl⟩
      have NB := Lib.hid enb
      rw [enb] at z4 WB
      clear yb1 yb2 sb qb1 qb2 qb3 qb4 enb
      go_wp2_with fail
      go_loop [15, 17] (fun p i => ∃ j : Nat, j ≤ nb ∧ i = .int .i64 j ∧ p = .int .i64 (LB.take j).sum) (fun _ i => nb - (intOf i).toNat)
      case atStart => exact ⟨0, by omega, rfl, rfl⟩
      case round =>
        obtain ⟨j, hj, rfl, rfl⟩ := hrel
        by_cases hj2 : j < nb
        · obtain ⟨b, off, rfl, hc⟩ := SB.out j (by rw [NB.out]; exact hj2)
          obtain ⟨u1, u2, u3⟩ := WB.out j hj2
          obtain ⟨v, ev⟩ : ∃ v, LB.getD j 0 = v := ⟨_, rfl⟩
          rw [ev] at hc u3
          clear ev
          have u4 : j + 1 ≤ nb := hj2
          have u5 := down_meas hj2
          go_wp2_with fail
          exact ⟨⟨j + 1, u4, by rw [u1]; exact congrArg (Value.int .i64) (by omega), by rw [u3]⟩, by rw [u1]; exact u5⟩
        · obtain rfl : j = nb := by omega
          have eb : (LB.take j).sum = P := by rw [← NB.out, List.take_length]; exact SUB.out
          rw [eb]
          clear eb hj2 hj
          go_wp2_with fail
          go_loop [16, 18] (fun p i => p = .int .i64 0 ∧ i = .int .i64 0) (fun _ _ => 0)
          case atStart => exact ⟨rfl, rfl⟩
          case round =>
            obtain ⟨rfl, rfl⟩ := hrel
            have ePx := eP.out
            have p1 : IntKind.u64.wrap s = s := IntWalk.u64_in _ (by have := hs.out; omega)
            have p2 : min s.toNat 64 = s.toNat := by have := hs.out; omega
            have p3 : IntKind.i64.wrap (2 ^ s.toNat) = P := iwrap eP.out
            have hs' := hs.out
            go_wp2_with fail
            go_quiet (fail)
            go_wp2_with fail
            exact ⟨⟨k + 1, q4, by rw [q1]; exact congrArg (Value.int .i64) (by omega), Lib.hid (bdrewN HI.out _)⟩, by rw [q1]; exact down_meas hlt⟩
    · obtain rfl : k = ln := by omega
      go_wp2_with fail
      refine (sane_is _ (HT.out.below (bthen HB4.out HI.out))).mono ?_; rintro e w4 ⟨rfl, hb⟩
      have HB5 := Lib.hid (bthen (bthen HB4.out HI.out) hb)
      clear hb
      go_wp2_with fail
      go_returns
      exact ⟨rfl, HB5.out⟩
theorem sums_walk (n m sh : Int) (w : World) (f0 : -9223372036854775808 ≤ n ∧ n ≤ 9223372036854775807) (f1 : -9223372036854775808 ≤ m ∧ m ≤ 9223372036854775807) (f2 : -9223372036854775808 ≤ sh ∧ sh ≤ 9223372036854775807) (hT : TabZ w) :
    Calls Tryd.prog 6 #[.int .i64 n, .int .i64 m, .int .i64 sh] w (TestPost true w) := by
  obtain ⟨a0, ea⟩ : ∃ x, n % 40 = x := ⟨_, rfl⟩
  obtain ⟨d0, ed⟩ : ∃ x, m % 40 = x := ⟨_, rfl⟩
  obtain ⟨s, es⟩ : ∃ s, sh % 15 = s := ⟨_, rfl⟩
  have b0 : 0 ≤ a0 ∧ a0 < 40 := by omega
  have b1 : 0 ≤ d0 ∧ d0 < 40 := by omega
  have bs : 0 ≤ s ∧ s ≤ 14 := by omega
  obtain ⟨ln, el⟩ : ∃ ln : Nat, (ln : Int) = 1 + d0 := ⟨(1 + d0).toNat, by omega⟩
  obtain ⟨x, ex⟩ : ∃ x, 1 + a0 = x := ⟨_, rfl⟩
  have hP : wrap64 (2 ^ s.toNat) = one s := by
    have := one_bd bs
    unfold one at this ⊢
    unfold wrap64; omega
  have e1 : wrap64 (1 + a0) = x := by unfold wrap64; omega
  have e2 : wrap64 (1 + d0) = (ln : Int) := by unfold wrap64; omega
  have bx : 1 ≤ x ∧ x ≤ 40 := by omega
  have bl : 1 ≤ ln ∧ ln ≤ 40 := by omega
  obtain ⟨i1, i2, i3, i4⟩ := lin_taps (n := x) (m := (ln : Int)) (s := s) (by omega) (by omega) bs
  rw [Int.toNat_natCast] at i2 i4
  rcases box_taps (n := x) (m := (ln : Int)) (s := s) (by omega) (by omega) bs with ⟨j1, j2⟩ | ⟨j1, j2, j3, j4⟩
  · exact sums_no n m sh a0 d0 x s (one s) ln _ w (Lib.hid f0) (Lib.hid f1) (Lib.hid f2) (Lib.hid ea) (Lib.hid ed) (Lib.hid es) e1 e2 (Lib.hid j2) (Lib.hid j1) (Lib.hid rfl) (Lib.hid i1) (Lib.hid i2) (Lib.hid i3) (Lib.hid i4) (Lib.hid hP) bl.1 (Lib.hid bs) (Lib.hid bl.2) (Lib.hid bx) (Lib.hid hT)
  · rw [Int.toNat_natCast] at j2 j4
    exact sums_ok n m sh a0 d0 x s (one s) ln _ _ w (Lib.hid f0) (Lib.hid f1) (Lib.hid f2) (Lib.hid ea) (Lib.hid ed) (Lib.hid es) e1 e2 (Lib.hid rfl) (Lib.hid j1) (Lib.hid rfl) (Lib.hid i1) (Lib.hid j2) (Lib.hid i2) (Lib.hid j3) (Lib.hid i3) (Lib.hid j4) (Lib.hid i4) (Lib.hid hP) bl.1 (Lib.hid bs) (Lib.hid bl.2) (Lib.hid bx) (Lib.hid hT)
namespace tablesSums
theorem own : ownKnob Tryd.prog.godebug = none := by kernel_rfl
theorem laid : laidOutB Tryd.prog = true := by kernel_rfl
theorem params_ok : ∀ t ∈ Tryd.f6.params.toList, Tryd.prog.readableRec t = true ∧ t < Tryd.prog.types.size := by
  rw [Tryd.params6]
  intro t ht
  simp at ht
  subst ht
  exact ⟨by kernel_rfl, of_decide_eq_true (by kernel_rfl)⟩
set_option maxRecDepth 100000 in
theorem lifted (os : Os) (started : os.Started) (H : Type) (enc : TypeId × Value → H) :
    ReturnsInHanded {} Tryd.checked os 6 .any (fun w args => (Rows.tablesSumsSpec.pre enc Tryd.prog Tryd.f6 Rows.tablesSumsRow.domain false w args ∧ laidMetH Tryd.prog Rows.tablesSumsRow.laid w) ∧ sizedMet enc Tryd.prog Tryd.f6 (OpenSpec.ofChange Rows.tablesSumsSpec) false w args) (Rows.tablesSumsSpec.post enc Tryd.prog Tryd.f6 false true false false) := by
  refine returnsInHanded_of_change_and (C := Tryd.checked) (X := fun w _ => laidMetH Tryd.prog Rows.tablesSumsRow.laid w) (fun _ _ _ hh h => h.of_heap hh) own started (by kernel_rfl) Tryd.func6
    (ChangeSpec.witness_shaped (enc := enc) (C := Tryd.checked) (os := os) (X := fun w _ => laidMetH Tryd.prog Rows.tablesSumsRow.laid w) false (World.laidAll Tryd.prog os Rows.tablesSumsRow.laid) #[.int .i64 0, .int .i64 0, .int .i64 0] 8 (World.laidAll_os _ _ _)
      (World.shaped_of_ZipB (by kernel_rfl) (by kernel_rfl)) (by kernel_rfl) (by kernel_rfl) (by kernel_rfl)
      (by rw [MakeChecks.laidMetH_plain _ _ _ (by kernel_rfl)]; exact laidMet_laidAll _ (by kernel_rfl) (by kernel_rfl))) ?_
  intro W base args ds gs before hval0 hW hcnd _ hL _
  have hval : ∀ (j : Nat) t v, Tryd.f6.params[j]? = some t → args[j]? = some v → Value.okWide Tryd.prog W .any base t v := hval0
  have hW' := hW
  obtain ⟨p, q, hA0, hV, rfl, hfz, hnd⟩ := hW
  have hA : DataW.TrodAll enc Tryd.prog W 0 (fun _ => true) true Tryd.f6.params.toList args.toList ds p := hA0
  rw [Tryd.params6] at hA hval
  obtain ⟨v0, vs0, d0, ds0, p0, q0, hargs, rfl, rfl, h0, r0⟩ := trodAll_cons hA
  obtain ⟨v1, vs1, d1, ds1, p1, q1, rfl, rfl, rfl, h1, r1⟩ := trodAll_cons r0
  obtain ⟨v2, vs2, d2, ds2, p2, q2, rfl, rfl, rfl, h2, r2⟩ := trodAll_cons r1
  obtain ⟨rfl, rfl, rfl⟩ := trodAll_nil r2
  obtain rfl : args = #[v0, v1, v2] := by cases args; simp_all
  obtain ⟨rfl, rfl⟩ := trodVars_none hV
  obtain ⟨i0, rfl, rfl, rfl, w0⟩ := open_int Tryd.underlying3 (hval 0 3 v0 rfl rfl) h0
  obtain ⟨i1, rfl, rfl, rfl, w1⟩ := open_int Tryd.underlying3 (hval 1 3 v1 rfl rfl) h1
  obtain ⟨i2, rfl, rfl, rfl, w2⟩ := open_int Tryd.underlying3 (hval 2 3 v2 rfl rfl) h2
  clear hA0 hval0
  have fin : Calls Tryd.prog 6 #[.int .i64 i0, .int .i64 i1, .int .i64 i2] W (TestPost true W) := sums_walk i0 i1 i2 W (wf_bd w0) (wf_bd w1) (wf_bd w2) (tab_laid hL)
  refine fin.mono fun e W' ⟨he, hb⟩ => ?_
  subst he
  exact ⟨_, rfl, law_post laid rfl Tryd.underlying4 params_ok rfl hW' rfl hb⟩

theorem over : Rows.tablesSumsRow.holds Tryd.pinned (OpenSpec.ofChange Rows.tablesSumsSpec) :=
  OpenClaim.holds_of_wide 6 Tryd.f6 rfl rfl rfl rfl rfl rfl rfl ⟨rfl, rfl, rfl, rfl, rfl⟩ rfl rfl rfl rfl rfl (by kernel_rfl) Tryd.func6 (by kernel_rfl)
    (of_decide_eq_true (by kernel_rfl)) (by unfold Func.isWrapper; first | (rw [if_pos (by decide +kernel)]; kernel_rfl) | (rw [if_neg (by decide +kernel)]; exact ⟨rfl, rfl⟩))
    (fun os started H enc _ => lifted os started H enc)

/-- the statement -/
theorem proved : Rows.TablesSumsCardSaid :=
  Claim7.holds_tied_plain_at .later [] [.data] true Rows.tablesSumsCard.stood.harness false over (fun _ h => by cases h) (by kernel_rfl) (fun _ h => by cases h) tablesSums_row_tie rfl ⟨rfl, rfl⟩ (by kernel_rfl) rfl
    (fun f fn hf hfn => by
      obtain rfl : f = 6 := Option.some.inj ((show Tryd.prog.funcNamed "tilefarm/tilefarmlaw8.TablesSums" = some 6 by kernel_rfl).symm.trans hf) |>.symm
      obtain rfl : fn = Tryd.f6 := (Option.some.inj (Tryd.func6.symm.trans hfn)).symm
      exact ⟨by kernel_rfl, fun j t ht => by
        rw [Tryd.params6] at ht
        have hm : t ∈ [3, 3, 3] := by simpa using Array.mem_of_getElem? ht
        have hall : ([3, 3, 3].all fun u => !Tryd.prog.wantsStandIn u) = true := by kernel_rfl
        exact (show Tryd.prog.wantsStandIn t = false by simpa using List.all_eq_true.1 hall t hm)⟩)
    (by kernel_rfl)
#print axioms proved
end tablesSums
end Go.Proofs.YtjmdpebocchdhaaDoor
