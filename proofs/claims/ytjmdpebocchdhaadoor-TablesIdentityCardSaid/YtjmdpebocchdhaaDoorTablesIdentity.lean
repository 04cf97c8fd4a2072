/- For all ints the statement TablesIdentity returns true: a table between equal lengths names each coordinate alone. Conditions: the table math/bits.deBruijn64tab holds what the program's text lays in it (tied). -/
import Derived.Test.YtjmdpebocchdhaaDoorTSane
namespace Go.Proofs.YtjmdpebocchdhaaDoor
open Go.ChangeShapes Go.WideShapes Go.ChangeAt Go.RowKit
set_option linter.unusedVariables false
set_option linter.unusedSimpArgs false

theorem ident_tabs {x s : Int} (hx : 1 ≤ x ∧ x ≤ 128) (hs : 0 ≤ s ∧ s ≤ 14) : boxC x x s = 0 ∧ makeC x x s = 0 ∧ (boxT x x s).length = x.toNat ∧ (linT x x s).length = x.toNat ∧ ∀ k : Nat, k < x.toNat → (boxT x x s)[k]? = some ⟨k, [one s]⟩ ∧ (linT x x s)[k]? = some ⟨k, [one s, 0]⟩ := by
  have hm : makeC x x s = 0 := by unfold makeC; rw [sideT_t.2 hx, if_neg (by simp), if_neg (by omega)]
  have hb : boxC x x s = 0 := by unfold boxC; rw [hm, if_neg (by simp), boxOk_self hx]; rfl
  have e1 : boxT x x s = boxL x x s x.toNat := by unfold boxT; rw [hb, if_pos rfl]
  have e2 : linT x x s = linL x x s x.toNat := by unfold linT; rw [hm, if_pos rfl]
  rw [e1, e2]
  refine ⟨hb, hm, boxL_len _ _ _ _, linL_len _ _ _ _, fun k hk => ⟨?_, ?_⟩⟩
  · unfold boxL
    rw [List.getElem?_map, List.getElem?_range hk]
    show some (boxTap x x s k) = _
    rw [(box_self hx (by omega)).2]
  · unfold linL
    rw [List.getElem?_map, List.getElem?_range hk]
    show some (linTap x x s k) = _
    rw [lin_self hx hs]
set_option maxRecDepth 100000 in
set_option maxHeartbeats 4000000 in
theorem ident_way (n sh x0 s P : Int) (ln : Nat) (T1 T2 : List Tp) (w : World) (f0 : Hid (-9223372036854775808 ≤ n ∧ n ≤ 9223372036854775807)) (f1 : Hid (-9223372036854775808 ≤ sh ∧ sh ≤ 9223372036854775807)) (E1 : Hid (n % 128 = x0)) (E2 : Hid (sh % 15 = s)) (e3 : wrap64 (1 + x0) = (ln : Int))
    (hT1 : Hid (boxT ln ln s = T1)) (hC1 : Hid (boxC ln ln s = 0)) (hT2 : Hid (linT ln ln s = T2)) (hC2 : Hid (makeC ln ln s = 0)) (l1 : Hid (T1.length = ln)) (l2 : Hid (T2.length = ln)) (hk : Hid (∀ k : Nat, k < ln → T1[k]? = some ⟨k, [P]⟩ ∧ T2[k]? = some ⟨k, [P, 0]⟩)) (eP : Hid (wrap64 (2 ^ s.toNat) = P)) (h1 : 1 ≤ ln) (hs : Hid (0 ≤ s ∧ s ≤ 14)) (hn : Hid (ln ≤ 128)) (HT : Hid (TabZ w)) :
    Calls Tryd.prog 7 #[.int .i64 n, .int .i64 sh] w (TestPost true w) := by
  have HB := Lib.hid (bref w)
  go_enter Tryd.func7, Tryd.ntmps7
  go_wp2_with fail
  refine (mod_rng _ _ _ (by decide) (by decide) f0.out.1 f0.out.2 E1.out).mono ?_; rintro e w1 ⟨rfl, rfl⟩
  go_wp2_with fail
  refine (mod_rng _ _ _ (by decide) (by decide) f1.out.1 f1.out.2 E2.out).mono ?_; rintro e w1 ⟨rfl, rfl⟩
  go_wp2_with fail
  refine (tbox_any _ _ _ _).mono ?_; rintro e w1 ⟨v1, V1, rfl, hV1, hO1, hb⟩
  rw [hT1.out] at hV1
  rw [hC1.out]
  obtain ⟨g1, c1, rfl, -, hA1⟩ := tap_at hO1 hV1 (by rw [l1.out]; exact h1)
  rw [l1.out]
  have HA1 := Lib.hid hA1
  have HB1 := Lib.hid (bthen HB.out hb)
  clear HB hb hO1 hV1 hA1
  go_wp2_with fail
  refine (tlin_any _ _ _ _).mono ?_; rintro e w2 ⟨v2, V2, rfl, hV2, hO2, hb⟩
  rw [hT2.out] at hV2
  rw [hC2.out]
  obtain ⟨g2, c2, rfl, -, hA2⟩ := tap_at hO2 hV2 (by rw [l2.out]; exact h1)
  rw [l2.out]
  have HA2 := Lib.hid hA2
  have HB2 := Lib.hid (bthen HB1.out hb)
  have HN2 := Lib.hid hb
  clear HB1 hb hO2 hV2 hA2
  go_wp2_with fail
  go_loopw [11] (fun i wr => ∃ k : Nat, k ≤ ln ∧ i = .int .i64 k ∧ Hid (Below w2.heap.size w2 wr)) (fun i _ => ln - (intOf i).toNat)
  case atStart => exact ⟨0, by omega, rfl, Lib.hid (bref _)⟩
  case round =>
    obtain ⟨k, hkl, rfl, HI⟩ := hrel
    by_cases hlt : k < ln
    · have hkI : (k : Int) < ln := by omega
      obtain ⟨t1, t2⟩ := hk.out k hlt
      obtain ⟨x1, ad1, k1, x2, s1⟩ := HA1.out k k [P] t1
      obtain ⟨b1, o1, rfl, y1⟩ := is_at s1 (by simp)
      obtain ⟨x3, ad2, k2, x4, s2⟩ := HA2.out k k [P, 0] t2
      obtain ⟨b2, o2, rfl, y2⟩ := is_at s2 (by simp)
      have z1 := bkeep HI.out (bkeep HN2.out x1)
      have z2 := bkeep HI.out (bkeep HN2.out x2)
      have z3 := bkeep HI.out (bkeep HN2.out (y1 0 (by simp)))
      have z4 := bkeep HI.out x3
      have z5 := bkeep HI.out x4
      have z6 := bkeep HI.out (y2 0 (by simp))
      have z7 := bkeep HI.out (y2 1 (by simp))
      simp only [Nat.add_zero, List.getD_cons_zero, List.getD_cons_succ, List.length_cons, List.length_nil] at z1 z2 z3 z4 z5 z6 z7
      have q1 : wrap64 ((k : Int) + 1) = (k : Int) + 1 := by have := hn.out; unfold wrap64; omega
      have q2 := eP.out
      have q3 := hs.out
      have q4 : k + 1 ≤ ln := hlt
      clear x1 x2 x3 x4 y1 y2 s1 s2 t1 t2
      go_wp2_with fail
      exact ⟨⟨k + 1, q4, by rw [q1]; exact congrArg (Value.int .i64) (by omega), HI⟩, by rw [q1]; exact down_meas hlt⟩
    · obtain rfl : k = ln := by omega
      go_wp2_with fail
      refine (sane_is _ (HT.out.below (bthen HB2.out HI.out))).mono ?_; rintro e w4 ⟨rfl, hb⟩
      have HB4 := Lib.hid (bthen (bthen HB2.out HI.out) hb)
      clear hb
      go_wp2_with fail
      go_returns
      exact ⟨rfl, HB4.out⟩
theorem ident_walk (n sh : Int) (w : World) (f0 : -9223372036854775808 ≤ n ∧ n ≤ 9223372036854775807) (f1 : -9223372036854775808 ≤ sh ∧ sh ≤ 9223372036854775807) (hT : TabZ w) :
    Calls Tryd.prog 7 #[.int .i64 n, .int .i64 sh] w (TestPost true w) := by
  obtain ⟨x0, e0⟩ : ∃ x, n % 128 = x := ⟨_, rfl⟩
  obtain ⟨s, es⟩ : ∃ s, sh % 15 = s := ⟨_, rfl⟩
  have b0 : 0 ≤ x0 ∧ x0 < 128 := by omega
  have bs : 0 ≤ s ∧ s ≤ 14 := by omega
  obtain ⟨ln, el⟩ : ∃ ln : Nat, (ln : Int) = 1 + x0 := ⟨(1 + x0).toNat, by omega⟩
  obtain ⟨i1, i2, i3, i4, i5⟩ := ident_tabs (x := (ln : Int)) (s := s) (by omega) bs
  rw [Int.toNat_natCast] at i3 i4 i5
  have hP : wrap64 (2 ^ s.toNat) = one s := by
    have := one_bd bs
    unfold one at this ⊢
    unfold wrap64; omega
  exact ident_way n sh x0 s (one s) ln _ _ w (Lib.hid f0) (Lib.hid f1) (Lib.hid e0) (Lib.hid es) (by rw [← el]; unfold wrap64; omega) (Lib.hid rfl) (Lib.hid i1) (Lib.hid rfl) (Lib.hid i2) (Lib.hid i3) (Lib.hid i4) (Lib.hid i5) (Lib.hid hP) (by omega) (Lib.hid bs) (Lib.hid (by omega)) (Lib.hid hT)
namespace tablesIdentity
theorem own : ownKnob Tryd.prog.godebug = none := by kernel_rfl
theorem laid : laidOutB Tryd.prog = true := by kernel_rfl
theorem params_ok : ∀ t ∈ Tryd.f7.params.toList, Tryd.prog.readableRec t = true ∧ t < Tryd.prog.types.size := by
  rw [Tryd.params7]
  intro t ht
  simp at ht
  subst ht
  exact ⟨by kernel_rfl, of_decide_eq_true (by kernel_rfl)⟩
set_option maxRecDepth 100000 in
theorem lifted (os : Os) (started : os.Started) (H : Type) (enc : TypeId × Value → H) :
    ReturnsInHanded {} Tryd.checked os 7 .any (fun w args => (Rows.tablesIdentitySpec.pre enc Tryd.prog Tryd.f7 Rows.tablesIdentityRow.domain false w args ∧ laidMetH Tryd.prog Rows.tablesIdentityRow.laid w) ∧ sizedMet enc Tryd.prog Tryd.f7 (OpenSpec.ofChange Rows.tablesIdentitySpec) false w args) (Rows.tablesIdentitySpec.post enc Tryd.prog Tryd.f7 false true false false) := by
  refine returnsInHanded_of_change_and (C := Tryd.checked) (X := fun w _ => laidMetH Tryd.prog Rows.tablesIdentityRow.laid w) (fun _ _ _ hh h => h.of_heap hh) own started (by kernel_rfl) Tryd.func7
    (ChangeSpec.witness_shaped (enc := enc) (C := Tryd.checked) (os := os) (X := fun w _ => laidMetH Tryd.prog Rows.tablesIdentityRow.laid w) false (World.laidAll Tryd.prog os Rows.tablesIdentityRow.laid) #[.int .i64 0, .int .i64 0] 8 (World.laidAll_os _ _ _)
      (World.shaped_of_ZipB (by kernel_rfl) (by kernel_rfl)) (by kernel_rfl) (by kernel_rfl) (by kernel_rfl)
      (by rw [MakeChecks.laidMetH_plain _ _ _ (by kernel_rfl)]; exact laidMet_laidAll _ (by kernel_rfl) (by kernel_rfl))) ?_
  intro W base args ds gs before hval0 hW hcnd _ hL _
  have hval : ∀ (j : Nat) t v, Tryd.f7.params[j]? = some t → args[j]? = some v → Value.okWide Tryd.prog W .any base t v := hval0
  have hW' := hW
  obtain ⟨p, q, hA0, hV, rfl, hfz, hnd⟩ := hW
  have hA : DataW.TrodAll enc Tryd.prog W 0 (fun _ => true) true Tryd.f7.params.toList args.toList ds p := hA0
  rw [Tryd.params7] at hA hval
  obtain ⟨v0, vs0, d0, ds0, p0, q0, hargs, rfl, rfl, h0, r0⟩ := trodAll_cons hA
  obtain ⟨v1, vs1, d1, ds1, p1, q1, rfl, rfl, rfl, h1, r1⟩ := trodAll_cons r0
  obtain ⟨rfl, rfl, rfl⟩ := trodAll_nil r1
  obtain rfl : args = #[v0, v1] := by cases args; simp_all
  obtain ⟨rfl, rfl⟩ := trodVars_none hV
  obtain ⟨i0, rfl, rfl, rfl, w0⟩ := open_int Tryd.underlying3 (hval 0 3 v0 rfl rfl) h0
  obtain ⟨i1, rfl, rfl, rfl, w1⟩ := open_int Tryd.underlying3 (hval 1 3 v1 rfl rfl) h1
  clear hA0 hval0
  have fin : Calls Tryd.prog 7 #[.int .i64 i0, .int .i64 i1] W (TestPost true W) := ident_walk i0 i1 W (wf_bd w0) (wf_bd w1) (tab_laid hL)
  refine fin.mono fun e W' ⟨he, hb⟩ => ?_
  subst he
  exact ⟨_, rfl, law_post laid rfl Tryd.underlying4 params_ok rfl hW' rfl hb⟩

theorem over : Rows.tablesIdentityRow.holds Tryd.pinned (OpenSpec.ofChange Rows.tablesIdentitySpec) :=
  OpenClaim.holds_of_wide 7 Tryd.f7 rfl rfl rfl rfl rfl rfl rfl ⟨rfl, rfl, rfl, rfl, rfl⟩ rfl rfl rfl rfl rfl (by kernel_rfl) Tryd.func7 (by kernel_rfl)
    (of_decide_eq_true (by kernel_rfl)) (by unfold Func.isWrapper; first | (rw [if_pos (by decide +kernel)]; kernel_rfl) | (rw [if_neg (by decide +kernel)]; exact ⟨rfl, rfl⟩))
    (fun os started H enc _ => lifted os started H enc)

/-- the statement -/
theorem proved : Rows.TablesIdentityCardSaid :=
  Claim7.holds_tied_plain_at .later [] [.data] true Rows.tablesIdentityCard.stood.harness false over (fun _ h => by cases h) (by kernel_rfl) (fun _ h => by cases h) tablesIdentity_row_tie rfl ⟨rfl, rfl⟩ (by kernel_rfl) rfl
    (fun f fn hf hfn => by
      obtain rfl : f = 7 := Option.some.inj ((show Tryd.prog.funcNamed "tilefarm/tilefarmlaw8.TablesIdentity" = some 7 by kernel_rfl).symm.trans hf) |>.symm
      obtain rfl : fn = Tryd.f7 := (Option.some.inj (Tryd.func7.symm.trans hfn)).symm
      exact ⟨by kernel_rfl, fun j t ht => by
        rw [Tryd.params7] at ht
        have hm : t ∈ [3, 3] := by simpa using Array.mem_of_getElem? ht
        have hall : ([3, 3].all fun u => !Tryd.prog.wantsStandIn u) = true := by kernel_rfl
        exact (show Tryd.prog.wantsStandIn t = false by simpa using List.all_eq_true.1 hall t hm)⟩)
    (by kernel_rfl)
#print axioms proved
end tablesIdentity
end Go.Proofs.YtjmdpebocchdhaaDoor
