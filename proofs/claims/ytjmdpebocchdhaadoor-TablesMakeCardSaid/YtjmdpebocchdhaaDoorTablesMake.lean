/- For all ints the statement TablesMake returns true: box and linear tables, or the error, are those of the reference. Conditions: the table math/bits.deBruijn64tab holds what the program's text lays in it (tied). -/
import Derived.Test.YtjmdpebocchdhaaDoorTMakeKit
import Derived.Test.YtjmdpebocchdhaaDoorHeld
import Derived.Test.YtjmdpebocchdhaaDoorQuietIn
namespace Go.Proofs.YtjmdpebocchdhaaDoor
open Go.ChangeShapes Go.WideShapes Go.ChangeAt Go.RowKit
set_option linter.unusedVariables false
set_option linter.unusedSimpArgs false

abbrev CellS (b1 b2 b3 r q t : Nat) (X Y Z : Int) : World → Prop := fun w => w.cell? ⟨b1, r, none⟩ = some (.int .i64 X) ∧ w.cell? ⟨b2, q, none⟩ = some (.int .i64 Y) ∧ w.cell? ⟨b3, t, none⟩ = some (.int .i64 Z)
theorem cellS_below {b1 b2 b3 r q t : Nat} {X Y Z : Int} {w w' : World} (h : CellS b1 b2 b3 r q t X Y Z w) (hb : Below w.heap.size w w') : CellS b1 b2 b3 r q t X Y Z w' := ⟨bkeep hb h.1, bkeep hb h.2.1, bkeep hb h.2.2⟩
abbrev InC (S : World → Prop) : World → Prop := fun w' => ∃ s : In S, w' = s.w
set_option maxRecDepth 100000 in
set_option maxHeartbeats 4000000 in
theorem make_way (n m sh a1 a2 d1 d2 c1 x2 x3 y2 y3 : Int) (w : World) (f0 : Hid (-9223372036854775808 ≤ n ∧ n ≤ 9223372036854775807)) (f1 : Hid (-9223372036854775808 ≤ m ∧ m ≤ 9223372036854775807)) (f2 : Hid (-9223372036854775808 ≤ sh ∧ sh ≤ 9223372036854775807))
    (E1 : Hid (n % 128 = a1)) (E2 : Hid (n % 12 = a2)) (E3 : Hid (m % 128 = d1)) (E4 : Hid (m % 12 = d2)) (E5 : Hid (sh % 15 = c1)) (e1 : wrap64 (1 + a1) = x2) (e2 : wrap64 (1 + a2) = x3) (e3 : wrap64 (1 + d1) = y2) (e4 : wrap64 (1 + d2) = y3) (HT : Hid (TabZ w)) :
    Calls Tryd.prog 4 #[.int .i64 n, .int .i64 m, .int .i64 sh] w (TestPost true w) := by
  go_enter Tryd.func4, Tryd.ntmps4
  go_wp2_with fail
  refine (mod_rng _ _ _ (by decide) (by decide) f0.out.1 f0.out.2 E1.out).mono ?_; rintro e w1 ⟨rfl, rfl⟩
  go_wp2_with fail
  refine (mod_rng _ _ _ (by decide) (by decide) f0.out.1 f0.out.2 E2.out).mono ?_; rintro e w1 ⟨rfl, rfl⟩
  go_wp2_with fail
  refine (mod_rng _ _ _ (by decide) (by decide) f1.out.1 f1.out.2 E3.out).mono ?_; rintro e w1 ⟨rfl, rfl⟩
  go_wp2_with fail
  refine (mod_rng _ _ _ (by decide) (by decide) f1.out.1 f1.out.2 E4.out).mono ?_; rintro e w1 ⟨rfl, rfl⟩
  go_wp2_with fail
  refine (mod_rng _ _ _ (by decide) (by decide) f2.out.1 f2.out.2 E5.out).mono ?_; rintro e w1 ⟨rfl, rfl⟩
  go_wp2_with fail
  have HL0 := Lib.hid (lists_new w n x2 x3 m y2 y3 sh c1 8)
  go_loopw [10] (fun i wr => ∃ k : Nat, k ≤ 9 ∧ i = .int .i64 k ∧ Hid (ListsAt w n x2 x3 m y2 y3 sh c1 8 wr)) (fun i _ => 9 - (intOf i).toNat)
  case atStart => exact ⟨0, by omega, rfl, HL0⟩
  case round =>
    obtain ⟨k, hk, rfl, HI⟩ := hrel
    by_cases hlt : k < 9
    · have hkI : (k : Int) < 9 := by omega
      obtain ⟨r, q, t, er, eq, et, hr, hq, ht, u1, u2, u3⟩ := quo_bare hlt
      obtain ⟨X, eX⟩ : ∃ X, [n, x2, x3].getD r 0 = X := ⟨_, rfl⟩
      obtain ⟨Y, eY⟩ : ∃ Y, [m, y2, y3].getD q 0 = Y := ⟨_, rfl⟩
      obtain ⟨Z, eZ⟩ : ∃ Z, [sh, c1, 8].getD t 0 = Z := ⟨_, rfl⟩
      have C1 := Lib.hid (show CellS w.heap.size (w.heap.size + 1) (w.heap.size + 1 + 1) r q t X Y Z _ from ⟨by rw [← eX]; exact HI.out.2.1 r hr, by rw [← eY]; exact HI.out.2.2.1 q hq, by rw [← eZ]; exact HI.out.2.2.2 t ht⟩)
      have hrI : (r : Int) < 3 := Int.ofNat_lt.2 hr
      have hqI : (q : Int) < 3 := Int.ofNat_lt.2 hq
      have htI : (t : Int) < 3 := Int.ofNat_lt.2 ht
      clear er eq et eX eY eZ hr hq ht
      go_wp2_with fail
      haveI : Nonempty (In (CellS w.heap.size (w.heap.size + 1) (w.heap.size + 1 + 1) r q t X Y Z)) := ⟨⟨_, C1.out⟩⟩
      have g1 : ∀ s : In (CellS w.heap.size (w.heap.size + 1) (w.heap.size + 1 + 1) r q t X Y Z), s.w.cell? ⟨w.heap.size, r, none⟩ = some (.int .i64 X) := fun s => s.h.1
      have g2 : ∀ s : In (CellS w.heap.size (w.heap.size + 1) (w.heap.size + 1 + 1) r q t X Y Z), s.w.cell? ⟨w.heap.size + 1, q, none⟩ = some (.int .i64 Y) := fun s => s.h.2.1
      have g3 : ∀ s : In (CellS w.heap.size (w.heap.size + 1) (w.heap.size + 1 + 1) r q t X Y Z), s.w.cell? ⟨w.heap.size + 1 + 1, t, none⟩ = some (.int .i64 Z) := fun s => s.h.2.2
      obtain ⟨T, eT⟩ : ∃ T, boxT X Y Z = T := ⟨_, rfl⟩
      obtain ⟨c, eC⟩ : ∃ c, boxC X Y Z = c := ⟨_, rfl⟩
      obtain ⟨L, eL⟩ : ∃ L, linT X Y Z = L := ⟨_, rfl⟩
      obtain ⟨d, eD⟩ : ∃ d, makeC X Y Z = d := ⟨_, rfl⟩
      have sT := Lib.hid (box_small X Y Z)
      have sL := Lib.hid (lin_small X Y Z)
      rw [eT] at sT
      rw [eL] at sL
      have HT1 := Lib.hid eT
      have HC1 := Lib.hid eC
      have HL1 := Lib.hid eL
      have HD1 := Lib.hid eD
      clear eT eC eL eD
      refine wp_region_noPanic ?_
      refine wp_region_held_drew (S := InC (CellS w.heap.size (w.heap.size + 1) (w.heap.size + 1 + 1) r q t X Y Z)) (by kernel_rfl) ⟨⟨World.drew _, C1.out⟩, rfl⟩ (fun hHeld => ?_)
      refine held_run 18 0 6 rfl (by decide) (by kernel_rfl) (by kernel_rfl) (by kernel_rfl) (fun _ _ _ _ _ h => h) hHeld ?_
      simp only [List.take_succ_cons, List.take_zero, List.drop_succ_cons, List.drop_zero]
      repeat (go_big_quiet_step (fail))
      refine wpQuiet_nil ?_
      refine wpAnyH_ready (rs := [18]) (by kernel_rfl) (by simp) (AllReadyH.cons rfl (fun KQ hKQ => ?_) AllReadyH.nil)
      go_simp
      go_at_call 17
      refine (tbox_any X Y Z _).mono ?_; rintro e v1w ⟨v1, V1, rfl, hV, hO, hb⟩
      rw [HT1.out] at hV
      rw [HC1.out]
      replace hb := undrew hb
      have C2 := Lib.hid (cellS_below C1.out hb)
      have HV1 := Lib.hid hV
      have HO1 := Lib.hid hO
      have HI1 := Lib.hid (ListsAt.below HI.out hb)
      clear hV hO hb C1 HI
      go_wp2_with fail
      refine hKQ.out _ _ ⟨⟨_, C2.out⟩, rfl⟩ (fun hHeld2 => ?_)
      clear hKQ KQ hHeld
      have hHeld := hHeld2
      clear hHeld2
      try simp only [Act.put, List.setIfInBounds_toArray, List.set_cons_zero, List.set_cons_succ]
      refine held_run 5 19 0 rfl (by decide) (by kernel_rfl) (by kernel_rfl) (by kernel_rfl) (fun _ _ _ _ _ h => h) hHeld ?_
      simp only [List.take_succ_cons, List.take_zero, List.drop_succ_cons, List.drop_zero]
      repeat (go_big_quiet_step (fail))
      refine wpQuiet_nil ?_
      refine wpAnyH_done (by kernel_rfl) ?_ _
      refine NoPanic.normal ?_
      go_wp2_with fail
      refine wp_region_noPanic ?_
      refine wp_region_held_drew (S := InC (CellS w.heap.size (w.heap.size + 1) (w.heap.size + 1 + 1) r q t X Y Z)) (by kernel_rfl) ⟨⟨World.drew _, C2.out⟩, rfl⟩ (fun hHeld => ?_)
      refine held_run 18 0 6 rfl (by decide) (by kernel_rfl) (by kernel_rfl) (by kernel_rfl) (fun _ _ _ _ _ h => h) hHeld ?_
      simp only [List.take_succ_cons, List.take_zero, List.drop_succ_cons, List.drop_zero]
      repeat (go_big_quiet_step (fail))
      refine wpQuiet_nil ?_
      refine wpAnyH_ready (rs := [18]) (by kernel_rfl) (by simp) (AllReadyH.cons rfl (fun KQ hKQ => ?_) AllReadyH.nil)
      go_simp
      go_at_call 18
      refine (rbox_any X Y Z _).mono ?_; rintro e v2w ⟨v2, V2, rfl, hV, hO, hb⟩
      rw [HT1.out] at hV
      rw [HC1.out]
      replace hb := undrew hb
      have C3 := Lib.hid (cellS_below C2.out hb)
      have HV2 := Lib.hid hV
      have HO2 := Lib.hid hO
      have HI2 := Lib.hid (ListsAt.below HI1.out hb)
      have HO1' := Lib.hid (HO1.out.below hb)
      clear HO1
      clear hV hO hb C2 HI1
      go_wp2_with fail
      refine hKQ.out _ _ ⟨⟨_, C3.out⟩, rfl⟩ (fun hHeld2 => ?_)
      clear hKQ KQ hHeld
      have hHeld := hHeld2
      clear hHeld2
      try simp only [Act.put, List.setIfInBounds_toArray, List.set_cons_zero, List.set_cons_succ]
      refine held_run 5 19 0 rfl (by decide) (by kernel_rfl) (by kernel_rfl) (by kernel_rfl) (fun _ _ _ _ _ h => h) hHeld ?_
      simp only [List.take_succ_cons, List.take_zero, List.drop_succ_cons, List.drop_zero]
      repeat (go_big_quiet_step (fail))
      refine wpQuiet_nil ?_
      refine wpAnyH_done (by kernel_rfl) ?_ _
      refine NoPanic.normal ?_
      go_wp2_with fail
      refine wp_region_noPanic ?_
      refine wp_region_held_drew (S := InC (CellS w.heap.size (w.heap.size + 1) (w.heap.size + 1 + 1) r q t X Y Z)) (by kernel_rfl) ⟨⟨World.drew _, C3.out⟩, rfl⟩ (fun hHeld => ?_)
      refine held_run 18 0 6 rfl (by decide) (by kernel_rfl) (by kernel_rfl) (by kernel_rfl) (fun _ _ _ _ _ h => h) hHeld ?_
      simp only [List.take_succ_cons, List.take_zero, List.drop_succ_cons, List.drop_zero]
      repeat (go_big_quiet_step (fail))
      refine wpQuiet_nil ?_
      refine wpAnyH_ready (rs := [18]) (by kernel_rfl) (by simp) (AllReadyH.cons rfl (fun KQ hKQ => ?_) AllReadyH.nil)
      go_simp
      go_at_call 19
      refine (tlin_any X Y Z _).mono ?_; rintro e v3w ⟨v3, V3, rfl, hV, hO, hb⟩
      rw [HL1.out] at hV
      rw [HD1.out]
      replace hb := undrew hb
      have C4 := Lib.hid (cellS_below C3.out hb)
      have HV3 := Lib.hid hV
      have HO3 := Lib.hid hO
      have HI3 := Lib.hid (ListsAt.below HI2.out hb)
      have HO1'' := Lib.hid (HO1'.out.below hb)
      have HO2' := Lib.hid (HO2.out.below hb)
      clear HO1'
      clear HO2
      clear hV hO hb C3 HI2
      go_wp2_with fail
      refine hKQ.out _ _ ⟨⟨_, C4.out⟩, rfl⟩ (fun hHeld2 => ?_)
      clear hKQ KQ hHeld
      have hHeld := hHeld2
      clear hHeld2
      try simp only [Act.put, List.setIfInBounds_toArray, List.set_cons_zero, List.set_cons_succ]
      refine held_run 5 19 0 rfl (by decide) (by kernel_rfl) (by kernel_rfl) (by kernel_rfl) (fun _ _ _ _ _ h => h) hHeld ?_
      simp only [List.take_succ_cons, List.take_zero, List.drop_succ_cons, List.drop_zero]
      repeat (go_big_quiet_step (fail))
      refine wpQuiet_nil ?_
      refine wpAnyH_done (by kernel_rfl) ?_ _
      refine NoPanic.normal ?_
      go_wp2_with fail
      refine wp_region_noPanic ?_
      refine wp_region_held_drew (S := InC (CellS w.heap.size (w.heap.size + 1) (w.heap.size + 1 + 1) r q t X Y Z)) (by kernel_rfl) ⟨⟨World.drew _, C4.out⟩, rfl⟩ (fun hHeld => ?_)
      refine held_run 18 0 6 rfl (by decide) (by kernel_rfl) (by kernel_rfl) (by kernel_rfl) (fun _ _ _ _ _ h => h) hHeld ?_
      simp only [List.take_succ_cons, List.take_zero, List.drop_succ_cons, List.drop_zero]
      repeat (go_big_quiet_step (fail))
      refine wpQuiet_nil ?_
      refine wpAnyH_ready (rs := [18]) (by kernel_rfl) (by simp) (AllReadyH.cons rfl (fun KQ hKQ => ?_) AllReadyH.nil)
      go_simp
      go_at_call 20
      refine (rlinear_any X Y Z _).mono ?_; rintro e v4w ⟨v4, V4, rfl, hV, hO, hb⟩
      rw [HL1.out] at hV
      rw [HD1.out]
      replace hb := undrew hb
      have C5 := Lib.hid (cellS_below C4.out hb)
      have HV4 := Lib.hid hV
      have HO4 := Lib.hid hO
      have HI4 := Lib.hid (ListsAt.below HI3.out hb)
      have HO1''' := Lib.hid (HO1''.out.below hb)
      have HO2'' := Lib.hid (HO2'.out.below hb)
      have HO3' := Lib.hid (HO3.out.below hb)
      clear HO1''
      clear HO2'
      clear HO3
      clear hV hO hb C4 HI3
      go_wp2_with fail
      refine hKQ.out _ _ ⟨⟨_, C5.out⟩, rfl⟩ (fun hHeld2 => ?_)
      clear hKQ KQ hHeld
      have hHeld := hHeld2
      clear hHeld2
      try simp only [Act.put, List.setIfInBounds_toArray, List.set_cons_zero, List.set_cons_succ]
      refine held_run 5 19 0 rfl (by decide) (by kernel_rfl) (by kernel_rfl) (by kernel_rfl) (fun _ _ _ _ _ h => h) hHeld ?_
      simp only [List.take_succ_cons, List.take_zero, List.drop_succ_cons, List.drop_zero]
      repeat (go_big_quiet_step (fail))
      refine wpQuiet_nil ?_
      refine wpAnyH_done (by kernel_rfl) ?_ _
      refine NoPanic.normal ?_
      go_wp2_with fail
      refine (tsame_true HV1.out HV2.out sT.out HO1'''.out HO2''.out).mono ?_; rintro e w5 ⟨rfl, hb⟩
      have HI5 := Lib.hid (ListsAt.below HI4.out hb)
      have P3 := Lib.hid (HO3'.out.below hb)
      have P4 := Lib.hid (HO4.out.below hb)
      clear hb HI4 HO3' HO4 HO1''' HO2''
      go_wp2_with fail
      refine (tsame_true HV3.out HV4.out sL.out P3.out P4.out).mono ?_; rintro e w6 ⟨rfl, hb⟩
      have HI6 := Lib.hid (ListsAt.below HI5.out hb)
      clear hb HI5 P3 P4
      go_wp2_with fail
      exact ⟨⟨k + 1, by omega, by go_num, HI6⟩, by simp [intOf]; omega⟩
    · obtain rfl : k = 9 := by omega
      go_wp2_with fail
      refine (sane_is _ (HT.out.below HI.out.1)).mono ?_; rintro e w4 ⟨rfl, hb⟩
      have HB4 := Lib.hid (bthen HI.out.1 hb)
      clear hb
      go_wp2_with fail
      go_returns
      exact ⟨rfl, HB4.out⟩
theorem make_walk (n m sh : Int) (w : World) (f0 : -9223372036854775808 ≤ n ∧ n ≤ 9223372036854775807) (f1 : -9223372036854775808 ≤ m ∧ m ≤ 9223372036854775807) (f2 : -9223372036854775808 ≤ sh ∧ sh ≤ 9223372036854775807) (hT : TabZ w) :
    Calls Tryd.prog 4 #[.int .i64 n, .int .i64 m, .int .i64 sh] w (TestPost true w) :=
  make_way n m sh _ _ _ _ _ _ _ _ _ w (Lib.hid f0) (Lib.hid f1) (Lib.hid f2) (Lib.hid rfl) (Lib.hid rfl) (Lib.hid rfl) (Lib.hid rfl) (Lib.hid rfl) rfl rfl rfl rfl (Lib.hid hT)
namespace tablesMake
theorem own : ownKnob Tryd.prog.godebug = none := by kernel_rfl
theorem laid : laidOutB Tryd.prog = true := by kernel_rfl
theorem params_ok : ∀ t ∈ Tryd.f4.params.toList, Tryd.prog.readableRec t = true ∧ t < Tryd.prog.types.size := by
  rw [Tryd.params4]
  intro t ht
  simp at ht
  subst ht
  exact ⟨by kernel_rfl, of_decide_eq_true (by kernel_rfl)⟩
set_option maxRecDepth 100000 in
theorem lifted (os : Os) (started : os.Started) (H : Type) (enc : TypeId × Value → H) :
    ReturnsInHanded {} Tryd.checked os 4 .any (fun w args => (Rows.tablesMakeSpec.pre enc Tryd.prog Tryd.f4 Rows.tablesMakeRow.domain false w args ∧ laidMetH Tryd.prog Rows.tablesMakeRow.laid w) ∧ sizedMet enc Tryd.prog Tryd.f4 (OpenSpec.ofChange Rows.tablesMakeSpec) false w args) (Rows.tablesMakeSpec.post enc Tryd.prog Tryd.f4 false true false false) := by
  refine returnsInHanded_of_change_and (C := Tryd.checked) (X := fun w _ => laidMetH Tryd.prog Rows.tablesMakeRow.laid w) (fun _ _ _ hh h => h.of_heap hh) own started (by kernel_rfl) Tryd.func4
    (ChangeSpec.witness_shaped (enc := enc) (C := Tryd.checked) (os := os) (X := fun w _ => laidMetH Tryd.prog Rows.tablesMakeRow.laid w) false (World.laidAll Tryd.prog os Rows.tablesMakeRow.laid) #[.int .i64 0, .int .i64 0, .int .i64 0] 8 (World.laidAll_os _ _ _)
      (World.shaped_of_ZipB (by kernel_rfl) (by kernel_rfl)) (by kernel_rfl) (by kernel_rfl) (by kernel_rfl)
      (by rw [MakeChecks.laidMetH_plain _ _ _ (by kernel_rfl)]; exact laidMet_laidAll _ (by kernel_rfl) (by kernel_rfl))) ?_
  intro W base args ds gs before hval0 hW hcnd _ hL _
  have hval : ∀ (j : Nat) t v, Tryd.f4.params[j]? = some t → args[j]? = some v → Value.okWide Tryd.prog W .any base t v := hval0
  have hW' := hW
  obtain ⟨p, q, hA0, hV, rfl, hfz, hnd⟩ := hW
  have hA : DataW.TrodAll enc Tryd.prog W 0 (fun _ => true) true Tryd.f4.params.toList args.toList ds p := hA0
  rw [Tryd.params4] at hA hval
  obtain ⟨v0, vs0, d0, ds0, p0, q0, hargs, rfl, rfl, h0, r0⟩ := trodAll_cons hA
  obtain ⟨v1, vs1, d1, ds1, p1, q1, rfl, rfl, rfl, h1, r1⟩ := trodAll_cons r0
  obtain ⟨v2, vs2, d2, ds2, p2, q2, rfl, rfl, rfl, h2, r2⟩ := trodAll_cons r1
  obtain ⟨rfl, rfl, rfl⟩ := trodAll_nil r2
  obtain rfl : args = #[v0, v1, v2] := by cases args; simp_all
  obtain ⟨rfl, rfl⟩ := trodVars_none hV
  obtain ⟨i0, rfl, rfl, rfl, w0⟩ := open_int Tryd.underlying3 (hval 0 3 v0 rfl rfl) h0
  obtain ⟨i1, rfl, rfl, rfl, w1⟩ := open_int Tryd.underlying3 (hval 1 3 v1 rfl rfl) h1
  obtain ⟨i2, rfl, rfl, rfl, w2⟩ := open_int Tryd.underlying3 (hval 2 3 v2 rfl rfl) h2
  clear hA0 hval0
  have fin : Calls Tryd.prog 4 #[.int .i64 i0, .int .i64 i1, .int .i64 i2] W (TestPost true W) := make_walk i0 i1 i2 W (wf_bd w0) (wf_bd w1) (wf_bd w2) (tab_laid hL)
  refine fin.mono fun e W' ⟨he, hb⟩ => ?_
  subst he
  exact ⟨_, rfl, law_post laid rfl Tryd.underlying4 params_ok rfl hW' rfl hb⟩

theorem over : Rows.tablesMakeRow.holds Tryd.pinned (OpenSpec.ofChange Rows.tablesMakeSpec) :=
  OpenClaim.holds_of_wide 4 Tryd.f4 rfl rfl rfl rfl rfl rfl rfl ⟨rfl, rfl, rfl, rfl, rfl⟩ rfl rfl rfl rfl rfl (by kernel_rfl) Tryd.func4 (by kernel_rfl)
    (of_decide_eq_true (by kernel_rfl)) (by unfold Func.isWrapper; first | (rw [if_pos (by decide +kernel)]; kernel_rfl) | (rw [if_neg (by decide +kernel)]; exact ⟨rfl, rfl⟩))
    (fun os started H enc _ => lifted os started H enc)

/-- the statement -/
theorem proved : Rows.TablesMakeCardSaid :=
  Claim7.holds_tied_plain_at .later [] [.data] true Rows.tablesMakeCard.stood.harness false over (fun _ h => by cases h) (by kernel_rfl) (fun _ h => by cases h) tablesMake_row_tie rfl ⟨rfl, rfl⟩ (by kernel_rfl) rfl
    (fun f fn hf hfn => by
      obtain rfl : f = 4 := Option.some.inj ((show Tryd.prog.funcNamed "tilefarm/tilefarmlaw8.TablesMake" = some 4 by kernel_rfl).symm.trans hf) |>.symm
      obtain rfl : fn = Tryd.f4 := (Option.some.inj (Tryd.func4.symm.trans hfn)).symm
      exact ⟨by kernel_rfl, fun j t ht => by
        rw [Tryd.params4] at ht
        have hm : t ∈ [3, 3, 3] := by simpa using Array.mem_of_getElem? ht
        have hall : ([3, 3, 3].all fun u => !Tryd.prog.wantsStandIn u) = true := by kernel_rfl
        exact (show Tryd.prog.wantsStandIn t = false by simpa using List.all_eq_true.1 hall t hm)⟩)
    (by kernel_rfl)
#print axioms proved
end tablesMake
end Go.Proofs.YtjmdpebocchdhaaDoor
