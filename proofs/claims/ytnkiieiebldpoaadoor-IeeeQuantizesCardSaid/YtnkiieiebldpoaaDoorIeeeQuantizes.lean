/- For all lists and shifts the statement IeeeQuantizes returns true: quantized weights, or the error, are those of the reference. Conditions: the table math/bits.deBruijn64tab holds what the program's text lays in it (tied). -/
import Derived.Test.YtnkiieiebldpoaaDoorEKit
namespace Go.Proofs.YtnkiieiebldpoaaDoor
open Go.ChangeShapes Go.WideShapes Go.ChangeAt Go.RowKit
set_option linter.unusedVariables false
set_option linter.unusedSimpArgs false

theorem isu_grown {w w' : World} {g p : Nat} {L : List Int} (h : SliceU w (some ⟨g, 0, none⟩) L) (hg : w.grownBy w' (some p)) (hne : ¬ g = p) : SliceU w' (some ⟨g, 0, none⟩) L := by
  intro k hk
  obtain ⟨b, off, e, hc⟩ := h k hk
  cases e
  refine ⟨g, 0, rfl, hg.cell hc ?_⟩
  intro e; exact hne (Option.some.inj e)
theorem quantL_len (s : Int) (L : List Int) : (quantL s L).length ≤ L.length := by
  unfold quantL
  split
  · rw [List.length_set, outs_len]; omega
  · simp
theorem rquant_is {s c : Int} {L K : List Int} (hL : quantL s L = K) (hc : quantC s L = c) (a : Option Addr) (cap : Nat) (w : World) (hs : SliceU w a L) (hf : FitsU L) : Calls Tryd.prog 23 #[.slice a L.length cap, .int .i64 s] w (QuantPost K c w) := by
  have := rquant_any s L a cap w hs hf
  rw [hL, hc] at this; exact this
theorem same_is {L : List Int} (a b : Option Addr) (cap cap' : Nat) (w : World) (ha : SliceIs w a L) (hb : SliceIs w b L) (hl : L.length ≤ 9223372036854775807) :
    Calls Tryd.prog 24 #[.slice a L.length cap, .slice b L.length cap'] w fun e w' => e = .returned (.bool true) ∧ Below w.heap.size w w' := by
  refine (rsame_any L L a b cap cap' w ha hb hl hl).mono fun e w' h => ?_
  simpa [TestPost] using h
set_option maxRecDepth 100000 in
set_option maxHeartbeats 4000000 in
theorem quantizes_walk (xs : List Int) (a0 : Option Addr) (cap : Nat) (ys : List Int) (b1 : Option Addr) (cap1 : Nat) (i2 : Int) (w : World) (hs : SliceIs w a0 xs) (hf : Fits xs) (hl : xs.length ≤ 9223372036854775807) (us : SliceU w b1 ys) (uf : FitsU ys) (ul : ys.length ≤ 9223372036854775807) (hT : TabZ w) :
    Calls Tryd.prog 5 #[.slice a0 xs.length cap, .slice b1 ys.length cap1, .int .i64 i2] w (TestPost true w) := by
  have hs' := Lib.hid hs
  have hf' := Lib.hid hf
  have hl' := Lib.hid hl
  have us' := Lib.hid us
  have uf' := Lib.hid uf
  have ul' := Lib.hid ul
  have HT := Lib.hid hT
  clear hs hf hl us uf ul hT
  go_enter Tryd.func5, Tryd.ntmps5
  go_wp2_with fail
  refine (new_any a0 cap xs _ hs'.out hf'.out hl'.out).mono ?_; rintro e w1 ⟨rfl, hT1⟩
  replace hT1 : Hid (TapeSome w w1 w.heap.size a0 cap xs) := Lib.hid ⟨0, hT1⟩
  go_wp2_with fail
  go_loopw [8] (fun i wr => ∃ k : Nat, k ≤ 6 ∧ i = .int .i64 k ∧ Hid (TapeSome w wr w.heap.size a0 cap xs)) (fun i _ => 6 - (intOf i).toNat)
  case atStart => exact ⟨0, by omega, rfl, hT1⟩
  case round =>
    clear hT1
    obtain ⟨k, hk, rfl, hT1⟩ := hrel
    by_cases hlt : k < 6
    · have hkI : (k : Int) < 6 := by omega
      go_wp2_with fail
      refine (third_some w w.heap.size a0 cap xs _ hT1.out).mono ?_; rintro e w2 ⟨L, g, c, rfl, hL, hLf, hLs, hgb, hT2, hg⟩
      have hne : ¬ g = w.heap.size := by have := hT1.out.choose_spec.lt; omega
      replace hT2 := Lib.hid hT2; clear hg hT1 hgb
      go_wp2_with fail
      refine (next_some w w.heap.size a0 cap xs _ _ hT2.out (by omega) (by omega)).mono ?_; rintro e w3 ⟨m, rfl, hm, hT3, hg⟩
      have HL := Lib.hid (isu_grown hLs hg hne)
      replace hT3 := Lib.hid hT3; clear hg hT2 hLs hne
      have HLf := Lib.hid hLf
      have HLl := Lib.hid hL
      clear hLf hL
      by_cases h5 : k = 5
      · subst h5
        obtain ⟨K, eK⟩ : ∃ K, quantL i2 ys = K := ⟨_, rfl⟩
        obtain ⟨C, eC⟩ : ∃ C, quantC i2 ys = C := ⟨_, rfl⟩
        have HK := Lib.hid eK
        have HC := Lib.hid eC
        have HKl := Lib.hid (show K.length ≤ 9223372036854775807 by rw [← eK]; have := quantL_len i2 ys; have := ul'.out; omega)
        clear eK eC hkI hlt hk HL HLf HLl
        go_wp2_with fail
        refine (quant_is HK.out HC.out _ _ _ (isu_below us'.out (tape_below hT3.out)) uf'.out (tape_tab HT.out hT3.out)).mono ?_; rintro e w4 ⟨a, ca, rfl, hsa, hb⟩
        have hT4 := Lib.hid (tape_more hT3.out hb)
        have HSA := Lib.hid hsa
        clear hT3 hb hsa
        go_wp2_with fail
        refine (rquant_is HK.out HC.out _ _ _ (isu_below us'.out (tape_below hT4.out)) uf'.out).mono ?_; rintro e w5 ⟨a', ca', rfl, hsb, hb⟩
        have hT5 := Lib.hid (tape_more hT4.out hb)
        have HSA2 := Lib.hid (is_below HSA.out hb)
        have HSB := Lib.hid hsb
        clear hT4 hb hsb HSA
        go_wp2_with fail
        refine (same_is _ _ _ _ _ HSA2.out HSB.out HKl.out).mono ?_; rintro e w6 ⟨rfl, hb⟩
        have hT6 := Lib.hid (tape_more hT5.out hb)
        clear hT5 hb HSA2 HSB
        go_wp2_with fail
        go_roundw
        case rel => exact ⟨6, by omega, by go_num, hT6⟩
        case measure => simp [intOf]
      · have h5I : ((k : Int) == 5) = false := by simp; omega
        obtain ⟨s, es⟩ : ∃ s, m - 1 = s := ⟨_, rfl⟩
        obtain ⟨K, eK⟩ : ∃ K, quantL s L = K := ⟨_, rfl⟩
        obtain ⟨C, eC⟩ : ∃ C, quantC s L = C := ⟨_, rfl⟩
        have HK := Lib.hid eK
        have HC := Lib.hid eC
        have HKl := Lib.hid (show K.length ≤ 9223372036854775807 by rw [← eK]; have := quantL_len s L; have := HLl.out; omega)
        clear eK eC
        go_wp2_with fail
        refine (quant_is HK.out HC.out _ _ _ HL.out HLf.out (tape_tab HT.out hT3.out)).mono ?_; rintro e w4 ⟨a, ca, rfl, hsa, hb⟩
        have hT4 := Lib.hid (tape_more hT3.out hb)
        have HSA := Lib.hid hsa
        have HL4 := Lib.hid (isu_below HL.out hb)
        clear hT3 hb hsa HL
        go_wp2_with fail
        refine (rquant_is HK.out HC.out _ _ _ HL4.out HLf.out).mono ?_; rintro e w5 ⟨a', ca', rfl, hsb, hb⟩
        have hT5 := Lib.hid (tape_more hT4.out hb)
        have HSA2 := Lib.hid (is_below HSA.out hb)
        have HSB := Lib.hid hsb
        clear hT4 hb hsb HSA HL4
        go_wp2_with fail
        refine (same_is _ _ _ _ _ HSA2.out HSB.out HKl.out).mono ?_; rintro e w6 ⟨rfl, hb⟩
        have hT6 := Lib.hid (tape_more hT5.out hb)
        clear hT5 hb HSA2 HSB
        go_wp2_with fail
        go_roundw
        case rel => exact ⟨k + 1, by omega, by go_num, hT6⟩
        case measure => simp [intOf]; omega
    · obtain rfl : k = 6 := by omega
      go_wp2_with fail
      refine (sane_is _ (tape_tab HT.out hT1.out)).mono ?_; rintro e w6 ⟨rfl, hb⟩
      have hfin := Lib.hid (bthen (tape_below hT1.out) hb)
      clear hb
      go_wp2_with fail
      go_returns
      exact ⟨rfl, hfin.out⟩
namespace ieeeQuantizes
theorem own : ownKnob Tryd.prog.godebug = none := by kernel_rfl
theorem laid : laidOutB Tryd.prog = true := by kernel_rfl
theorem params_ok : ∀ t ∈ Tryd.f5.params.toList, Tryd.prog.readableRec t = true ∧ t < Tryd.prog.types.size := by
  rw [Tryd.params5]
  intro t ht
  simp at ht
  rcases ht with rfl | rfl | rfl <;> exact ⟨by kernel_rfl, of_decide_eq_true (by kernel_rfl)⟩
set_option maxRecDepth 100000 in
theorem lifted (os : Os) (started : os.Started) (H : Type) (enc : TypeId × Value → H) :
    ReturnsInHanded {} Tryd.checked os 5 .any (fun w args => (Rows.ieeeQuantizesSpec.pre enc Tryd.prog Tryd.f5 Rows.ieeeQuantizesRow.domain false w args ∧ laidMetH Tryd.prog Rows.ieeeQuantizesRow.laid w) ∧ sizedMet enc Tryd.prog Tryd.f5 (OpenSpec.ofChange Rows.ieeeQuantizesSpec) false w args) (Rows.ieeeQuantizesSpec.post enc Tryd.prog Tryd.f5 false true false false) := by
  refine returnsInHanded_of_change_and (C := Tryd.checked) (X := fun w _ => laidMetH Tryd.prog Rows.ieeeQuantizesRow.laid w) (fun _ _ _ hh h => h.of_heap hh) own started (by kernel_rfl) Tryd.func5
    (ChangeSpec.witness_shaped (enc := enc) (C := Tryd.checked) (os := os) (X := fun w _ => laidMetH Tryd.prog Rows.ieeeQuantizesRow.laid w) false (World.laidAll Tryd.prog os Rows.ieeeQuantizesRow.laid) #[.slice none 0 0, .slice none 0 0, .int .i64 0] 8 (World.laidAll_os _ _ _)
      (World.shaped_of_ZipB (by kernel_rfl) (by kernel_rfl)) (by kernel_rfl) (by kernel_rfl) (by kernel_rfl)
      (by rw [MakeChecks.laidMetH_plain _ _ _ (by kernel_rfl)]; exact laidMet_laidAll _ (by kernel_rfl) (by kernel_rfl))) ?_
  intro W base args ds gs before hval0 hW hcnd _ hL _
  have hval : ∀ (j : Nat) t v, Tryd.f5.params[j]? = some t → args[j]? = some v → Value.okWide Tryd.prog W .any base t v := hval0
  have hW' := hW
  obtain ⟨p, q, hA0, hV, rfl, hfz, hnd⟩ := hW
  have hA : DataW.TrodAll enc Tryd.prog W 0 (fun _ => true) true Tryd.f5.params.toList args.toList ds p := hA0
  rw [Tryd.params5] at hA hval
  obtain ⟨v0, vs0, d0, ds0, p0, q0, hargs, rfl, rfl, h0, r0⟩ := trodAll_cons hA
  obtain ⟨v1, vs1, d1, ds1, p1, q1, rfl, rfl, rfl, h1, r1⟩ := trodAll_cons r0
  obtain ⟨v2, vs2, d2, ds2, p2, q2, rfl, rfl, rfl, h2, r2⟩ := trodAll_cons r1
  obtain ⟨rfl, rfl, rfl⟩ := trodAll_nil r2
  obtain rfl : args = #[v0, v1, v2] := by cases args; simp_all
  obtain ⟨rfl, rfl⟩ := trodVars_none hV
  obtain ⟨a0, len, cap, rfl⟩ := okWide_slice Tryd.underlying22 (hval 0 22 v0 rfl rfl)
  obtain ⟨xs, rfl, hs, hf, hl⟩ := open_list h0
  obtain ⟨b1, len1, d1c, rfl⟩ := okWide_slice Tryd.underlying27 (hval 1 27 v1 rfl rfl)
  obtain ⟨ys1, rfl, us1, uf1, ul1⟩ := open_listU h1
  obtain ⟨i2, rfl, rfl, rfl, w2⟩ := open_int Tryd.underlying3 (hval 2 3 v2 rfl rfl) h2
  clear hA0 hval0
  have fin : Calls Tryd.prog 5 #[.slice a0 xs.length cap, .slice b1 ys1.length d1c, .int .i64 i2] W (TestPost true W) := quantizes_walk xs a0 cap ys1 b1 d1c i2 W hs hf hl us1 uf1 ul1 (tab_laid hL)
  refine fin.mono fun e W' ⟨he, hb⟩ => ?_
  subst he
  exact ⟨_, rfl, law_post laid rfl Tryd.underlying4 params_ok rfl hW' rfl hb⟩

theorem over : Rows.ieeeQuantizesRow.holds Tryd.pinned (OpenSpec.ofChange Rows.ieeeQuantizesSpec) :=
  OpenClaim.holds_of_wide 5 Tryd.f5 rfl rfl rfl rfl rfl rfl rfl ⟨rfl, rfl, rfl, rfl, rfl⟩ rfl rfl rfl rfl rfl (by kernel_rfl) Tryd.func5 (by kernel_rfl)
    (of_decide_eq_true (by kernel_rfl)) (by unfold Func.isWrapper; first | (rw [if_pos (by decide +kernel)]; kernel_rfl) | (rw [if_neg (by decide +kernel)]; exact ⟨rfl, rfl⟩))
    (fun os started H enc _ => lifted os started H enc)

/-- the statement -/
theorem proved : Rows.IeeeQuantizesCardSaid :=
  Claim7.holds_tied_plain_at .later [] [.data] true Rows.ieeeQuantizesCard.stood.harness false over (fun _ h => by cases h) (by kernel_rfl) (fun _ h => by cases h) ieeeQuantizes_row_tie rfl ⟨rfl, rfl⟩ (by kernel_rfl) rfl
    (fun f fn hf hfn => by
      obtain rfl : f = 5 := Option.some.inj ((show Tryd.prog.funcNamed "tilefarm/tilefarmlaw6.IeeeQuantizes" = some 5 by kernel_rfl).symm.trans hf) |>.symm
      obtain rfl : fn = Tryd.f5 := (Option.some.inj (Tryd.func5.symm.trans hfn)).symm
      exact ⟨by kernel_rfl, fun j t ht => by
        rw [Tryd.params5] at ht
        have hm : t ∈ [22, 27, 3] := by simpa using Array.mem_of_getElem? ht
        have hall : ([22, 27, 3].all fun u => !Tryd.prog.wantsStandIn u) = true := by kernel_rfl
        exact (show Tryd.prog.wantsStandIn t = false by simpa using List.all_eq_true.1 hall t hm)⟩)
    (by kernel_rfl)
#print axioms proved
end ieeeQuantizes
end Go.Proofs.YtnkiieiebldpoaaDoor
