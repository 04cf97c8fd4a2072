/- For every list of numbers and every shift the statement IeeeSigns returns true: the sign of a value only changes the sign of what is computed. Conditions: the table math/bits.deBruijn64tab holds what the program's text lays in it (tied). -/
import Derived.Test.YtnkiieiebldpoaaDoorEKit
namespace Go.Proofs.YtnkiieiebldpoaaDoor
open Go.ChangeShapes Go.WideShapes Go.ChangeAt Go.RowKit
set_option linter.unusedVariables false
set_option linter.unusedSimpArgs false

set_option maxRecDepth 100000 in
set_option maxHeartbeats 4000000 in
theorem signs_walk (xs : List Int) (a0 : Option Addr) (cap : Nat) (i1 : Int) (w : World) (hs : SliceIs w a0 xs) (hf : Fits xs) (hl : xs.length ≤ 9223372036854775807) (f1 : -9223372036854775808 ≤ i1 ∧ i1 ≤ 9223372036854775807) (hT : TabZ w) :
    Calls Tryd.prog 7 #[.slice a0 xs.length cap, .int .i64 i1] w (TestPost true w) := by
  have hs' := Lib.hid hs
  have hf' := Lib.hid hf
  have hl' := Lib.hid hl
  have HT := Lib.hid hT
  obtain ⟨s, es⟩ : ∃ s, i1 % 25 = s := ⟨_, rfl⟩
  have bs : 0 ≤ s ∧ s ≤ 24 := by omega
  have Es := Lib.hid es
  clear hs hf hl hT es
  go_enter Tryd.func7, Tryd.ntmps7
  go_wp2_with fail
  refine (new_any a0 cap xs _ hs'.out hf'.out hl'.out).mono ?_; rintro e w1 ⟨rfl, hT1⟩
  replace hT1 : Hid (TapeSome w w1 w.heap.size a0 cap xs) := Lib.hid ⟨0, hT1⟩
  go_wp2_with fail
  refine (bits_some w w.heap.size a0 cap xs _ hT1.out).mono ?_; rintro e w2 ⟨x, rfl, hx, hT2, hg⟩; replace hT2 := Lib.hid hT2; clear hg hT1
  go_wp2_with fail
  refine (mod_rng _ _ _ (by omega) (by omega) (by omega) (by omega) Es.out).mono ?_; rintro e w3 ⟨rfl, rfl⟩
  -- what is computed of the value and of its negative
  have HX := Lib.hid hx
  have HY := Lib.hid (flip_in hx)
  have hxor := xor_flip hx
  obtain ⟨y, ey⟩ : ∃ y, flip x = y := ⟨_, rfl⟩
  rw [ey] at hxor HY
  obtain ⟨fm, fe, fb⟩ := flip_parts hx
  obtain ⟨fn, fc⟩ := flip_scale (s := s) hx
  have fk := flip_class hx
  obtain ⟨fd, fz⟩ := flip_cmp hx
  rw [ey] at fm fe fb fn fc fk fd fz
  obtain ⟨N, eN⟩ : ∃ N, scaleN x s = N := ⟨_, rfl⟩
  obtain ⟨N2, eN2⟩ : ∃ N, scaleN y s = N := ⟨_, rfl⟩
  obtain ⟨C, eC⟩ : ∃ C, scaleC x s = C := ⟨_, rfl⟩
  obtain ⟨M, eM⟩ : ∃ M, partM x = M := ⟨_, rfl⟩
  obtain ⟨M2, eM2⟩ : ∃ M, partM y = M := ⟨_, rfl⟩
  obtain ⟨E, eE⟩ : ∃ E, partE x = E := ⟨_, rfl⟩
  obtain ⟨B, eB⟩ : ∃ B, partB x = B := ⟨_, rfl⟩
  obtain ⟨K, eK⟩ : ∃ K, classN x = K := ⟨_, rfl⟩
  obtain ⟨D, eD⟩ : ∃ D, cmpN x y = D := ⟨_, rfl⟩
  obtain ⟨G, eG⟩ : ∃ G, cmpB x y = G := ⟨_, rfl⟩
  have bN := scale_bd x s
  have bM : -9007199254740992 ≤ M ∧ M ≤ 9007199254740992 := by
    rw [← eM]
    by_cases hc : classN x ≤ 2
    · obtain ⟨f, hf, hm, _⟩ := parts_size hc
      rw [hm]; split <;> omega
    · have := (parts_no (x := x) (by omega)).1; omega
  have w1 : wrap64 (-N2) = N := by rw [← eN2, fn, eN]; unfold wrap64; omega
  have w2 : wrap64 (-M2) = M := by rw [← eM2, fm, eM]; unfold wrap64; omega
  have hgd : G = true → ((D == 0) = (K == 0)) := by
    intro h
    have := fz (by rw [eG]; exact h)
    rw [eD, eK] at this
    rw [Bool.eq_iff_iff]; simp [this]
  have EN := Lib.hid eN
  have EN2 := Lib.hid eN2
  have EC := Lib.hid eC
  have EC2 := Lib.hid (show scaleC y s = C by rw [fc, eC])
  have EM := Lib.hid eM
  have EM2 := Lib.hid eM2
  have EE := Lib.hid eE
  have EE2 := Lib.hid (show partE y = E by rw [fe, eE])
  have EB := Lib.hid eB
  have EB2 := Lib.hid (show partB y = B by rw [fb, eB])
  have EK := Lib.hid eK
  have EK2 := Lib.hid (show classN y = K by rw [fk, eK])
  have ED := Lib.hid eD
  have EG := Lib.hid eG
  have HGD := Lib.hid hgd
  clear hx ey fm fe fb fn fc fk fd fz eN eN2 eC eM eM2 eE eB eK eD eG bN bM hgd
  go_wp2_with fail
  refine (scale_is HX.out EN.out EC.out _ (tape_tab HT.out hT2.out)).mono ?_; rintro e w4 ⟨rfl, hb⟩
  have hT4 := Lib.hid (tape_more hT2.out hb)
  clear hT2 hb
  go_wp2_with fail
  refine (scale_is HY.out EN2.out EC2.out _ (tape_tab HT.out hT4.out)).mono ?_; rintro e w5 ⟨rfl, hb⟩
  have hT5 := Lib.hid (tape_more hT4.out hb)
  clear hT4 hb
  go_wp2_with fail
  refine (parts_is HX.out EM.out EE.out EB.out _ (tape_tab HT.out hT5.out)).mono ?_; rintro e w6 ⟨rfl, rfl⟩
  go_wp2_with fail
  refine (parts_is HY.out EM2.out EE2.out EB2.out _ (tape_tab HT.out hT5.out)).mono ?_; rintro e w6 ⟨rfl, rfl⟩
  go_wp2_with fail
  refine (cmp_is HX.out HY.out ED.out EG.out _).mono ?_; rintro e w6 ⟨rfl, rfl⟩
  rcases hG : G with _ | _
  · subst hG
    go_wp2_with fail
    refine (class_is HX.out EK.out _).mono ?_; rintro e w6 ⟨rfl, rfl⟩
    go_wp2_with fail
    refine (class_is HY.out EK2.out _).mono ?_; rintro e w6 ⟨rfl, rfl⟩
    go_wp2_with fail
    refine (sane_is _ (tape_tab HT.out hT5.out)).mono ?_; rintro e w6 ⟨rfl, hb⟩
    have hfin := Lib.hid (bthen (tape_below hT5.out) hb)
    clear hb
    go_wp2_with fail
    go_returns
    exact ⟨rfl, hfin.out⟩
  · subst hG
    have hDK := HGD.out rfl
    rcases hk : (K == 0) with _ | _
    all_goals
      rw [hk] at hDK
      go_wp2_with fail
      refine (class_is HX.out EK.out _).mono ?_; rintro e w6 ⟨rfl, rfl⟩
      go_wp2_with fail
      refine (class_is HY.out EK2.out _).mono ?_; rintro e w6 ⟨rfl, rfl⟩
      go_wp2_with fail
      refine (class_is HX.out EK.out _).mono ?_; rintro e w6 ⟨rfl, rfl⟩
      go_wp2_with fail
      refine (sane_is _ (tape_tab HT.out hT5.out)).mono ?_; rintro e w6 ⟨rfl, hb⟩
      have hfin := Lib.hid (bthen (tape_below hT5.out) hb)
      clear hb
      go_wp2_with fail
      go_returns
      exact ⟨rfl, hfin.out⟩
namespace ieeeSigns
theorem own : ownKnob Tryd.prog.godebug = none := by kernel_rfl
theorem laid : laidOutB Tryd.prog = true := by kernel_rfl
theorem params_ok : ∀ t ∈ Tryd.f7.params.toList, Tryd.prog.readableRec t = true ∧ t < Tryd.prog.types.size := by
  rw [Tryd.params7]
  intro t ht
  simp at ht
  rcases ht with rfl | rfl <;> exact ⟨by kernel_rfl, of_decide_eq_true (by kernel_rfl)⟩
set_option maxRecDepth 100000 in
theorem lifted (os : Os) (started : os.Started) (H : Type) (enc : TypeId × Value → H) :
    ReturnsInHanded {} Tryd.checked os 7 .any (fun w args => (Rows.ieeeSignsSpec.pre enc Tryd.prog Tryd.f7 Rows.ieeeSignsRow.domain false w args ∧ laidMetH Tryd.prog Rows.ieeeSignsRow.laid w) ∧ sizedMet enc Tryd.prog Tryd.f7 (OpenSpec.ofChange Rows.ieeeSignsSpec) false w args) (Rows.ieeeSignsSpec.post enc Tryd.prog Tryd.f7 false true false false) := by
  refine returnsInHanded_of_change_and (C := Tryd.checked) (X := fun w _ => laidMetH Tryd.prog Rows.ieeeSignsRow.laid w) (fun _ _ _ hh h => h.of_heap hh) own started (by kernel_rfl) Tryd.func7
    (ChangeSpec.witness_shaped (enc := enc) (C := Tryd.checked) (os := os) (X := fun w _ => laidMetH Tryd.prog Rows.ieeeSignsRow.laid w) false (World.laidAll Tryd.prog os Rows.ieeeSignsRow.laid) #[.slice none 0 0, .int .i64 0] 8 (World.laidAll_os _ _ _)
      (World.shaped_of_ZipB (by kernel_rfl) (by kernel_rfl)) (by kernel_rfl) (by kernel_rfl) (by kernel_rfl)
      (by rw [MakeChecks.laidMetH_plain _ _ _ (by kernel_rfl)]; exact laidMet_laidAll _ (by kernel_rfl) (by kernel_rfl))) ?_
  intro W base args ds gs before hval0 hW hcnd _ hL _
  have hval : ∀ (j : Nat) t v, Tryd.f7.params[j]? = some t → args[j]? = some v → Value.okWide Tryd.prog W .any base t v := hval0
  have hW' := hW
  obtain ⟨p, q, hA0, hV, rfl, hfz, hnd⟩ := hW
  have hA : DataW.TrodAll enc Tryd.prog W 0 (fun _ => true) true Tryd.f7.params.toList args.toList ds p := hA0
  rw [Tryd.params7] at hA hval
  obtain ⟨v0, vs0, d0, ds0, p0, q0, hargs, rfl, rfl, h0, r0⟩ := trodAll_cons hA
  obtain ⟨v1, vs1, d1, ds1, p1, q1, rfl, rfl, rfl, h1, r1⟩ := trodAll_cons r0
  obtain ⟨rfl, rfl, rfl⟩ := trodAll_nil r1
  obtain rfl : args = #[v0, v1] := by cases args; simp_all
  obtain ⟨rfl, rfl⟩ := trodVars_none hV
  obtain ⟨a0, len, cap, rfl⟩ := okWide_slice Tryd.underlying22 (hval 0 22 v0 rfl rfl)
  obtain ⟨xs, rfl, hs, hf, hl⟩ := open_list h0
  obtain ⟨i1, rfl, rfl, rfl, w1⟩ := open_int Tryd.underlying3 (hval 1 3 v1 rfl rfl) h1
  clear hA0 hval0
  have fin : Calls Tryd.prog 7 #[.slice a0 xs.length cap, .int .i64 i1] W (TestPost true W) := signs_walk xs a0 cap i1 W hs hf hl (wf_bd w1) (tab_laid hL)
  refine fin.mono fun e W' ⟨he, hb⟩ => ?_
  subst he
  exact ⟨_, rfl, law_post laid rfl Tryd.underlying4 params_ok rfl hW' rfl hb⟩

theorem over : Rows.ieeeSignsRow.holds Tryd.pinned (OpenSpec.ofChange Rows.ieeeSignsSpec) :=
  OpenClaim.holds_of_wide 7 Tryd.f7 rfl rfl rfl rfl rfl rfl rfl ⟨rfl, rfl, rfl, rfl, rfl⟩ rfl rfl rfl rfl rfl (by kernel_rfl) Tryd.func7 (by kernel_rfl)
    (of_decide_eq_true (by kernel_rfl)) (by unfold Func.isWrapper; first | (rw [if_pos (by decide +kernel)]; kernel_rfl) | (rw [if_neg (by decide +kernel)]; exact ⟨rfl, rfl⟩))
    (fun os started H enc _ => lifted os started H enc)

/-- the statement -/
theorem proved : Rows.IeeeSignsCardSaid :=
  Claim7.holds_tied_plain_at .later [] [.data] true Rows.ieeeSignsCard.stood.harness false over (fun _ h => by cases h) (by kernel_rfl) (fun _ h => by cases h) ieeeSigns_row_tie rfl ⟨rfl, rfl⟩ (by kernel_rfl) rfl
    (fun f fn hf hfn => by
      obtain rfl : f = 7 := Option.some.inj ((show Tryd.prog.funcNamed "tilefarm/tilefarmlaw6.IeeeSigns" = some 7 by kernel_rfl).symm.trans hf) |>.symm
      obtain rfl : fn = Tryd.f7 := (Option.some.inj (Tryd.func7.symm.trans hfn)).symm
      exact ⟨by kernel_rfl, fun j t ht => by
        rw [Tryd.params7] at ht
        have hm : t ∈ [22, 3] := by simpa using Array.mem_of_getElem? ht
        have hall : ([22, 3].all fun u => !Tryd.prog.wantsStandIn u) = true := by kernel_rfl
        exact (show Tryd.prog.wantsStandIn t = false by simpa using List.all_eq_true.1 hall t hm)⟩)
    (by kernel_rfl)
#print axioms proved
end ieeeSigns
end Go.Proofs.YtnkiieiebldpoaaDoor
