/- For all bits and shifts the statement IeeeScales returns true: scaled values, or the error, are those of the reference. Conditions: the table math/bits.deBruijn64tab holds what the program's text lays in it (tied). -/
import Derived.Test.YtnkiieiebldpoaaDoorEKit
import Derived.Deep.DeepMust
import Derived.Deep.RegionWith
namespace Go.Proofs.YtnkiieiebldpoaaDoor
open Go.ChangeShapes Go.WideShapes Go.ChangeAt Go.RowKit
set_option linter.unusedVariables false
set_option linter.unusedSimpArgs false

theorem tape_alloc {W w : World} {p : Nat} {a : Option Addr} {cap : Nat} {xs : List Int} (h : TapeSome W w p a cap xs) (o : Obj) : TapeSome W (w.alloc o) p a cap xs := tape_more h (balloc (bref _) o)
theorem tape_drew {W w : World} {p : Nat} {a : Option Addr} {cap : Nat} {xs : List Int} (h : TapeSome W w p a cap xs) : TapeSome W w.drew p a cap xs := tape_more h (bdrewN (bref _) 1)
theorem tape_drewN {W w : World} {p : Nat} {a : Option Addr} {cap : Nat} {xs : List Int} (h : TapeSome W w p a cap xs) (n : Nat) : TapeSome W (w.drewN n) p a cap xs := tape_more h (bdrewN (bref _) n)
set_option maxRecDepth 100000 in
set_option maxHeartbeats 4000000 in
theorem scales_walk (xs : List Int) (a0 : Option Addr) (cap : Nat) (z : Int) (i2 : Int) (w : World) (hs : SliceIs w a0 xs) (hf : Fits xs) (hl : xs.length ≤ 9223372036854775807) (hz : In64u z) (f2 : -9223372036854775808 ≤ i2 ∧ i2 ≤ 9223372036854775807) (hT : TabZ w) :
    Calls Tryd.prog 4 #[.slice a0 xs.length cap, .int .u64 z, .int .i64 i2] w (TestPost true w) := by
  have hs' := Lib.hid hs
  have hf' := Lib.hid hf
  have hl' := Lib.hid hl
  have HZ := Lib.hid hz
  have HT := Lib.hid hT
  obtain ⟨r, er⟩ : ∃ r, i2 % 25 = r := ⟨_, rfl⟩
  have Er := Lib.hid er
  clear hs hf hl hz hT er
  go_enter Tryd.func4, Tryd.ntmps4
  go_wp2_with fail
  refine (new_any a0 cap xs _ hs'.out hf'.out hl'.out).mono ?_; rintro e w1 ⟨rfl, hT1⟩
  replace hT1 : Hid (TapeSome w w1 w.heap.size a0 cap xs) := Lib.hid ⟨0, hT1⟩
  go_wp2_with fail
  go_loopw [8] (fun i wr => ∃ k : Nat, k ≤ 8 ∧ i = .int .i64 k ∧ Hid (TapeSome w wr w.heap.size a0 cap xs)) (fun i _ => 8 - (intOf i).toNat)
  case atStart => exact ⟨0, by omega, rfl, hT1⟩
  case round =>
    clear hT1
    obtain ⟨k, hk, rfl, hT1⟩ := hrel
    by_cases hlt : k < 8
    · have hkI : (k : Int) < 8 := by omega
      go_wp2_with fail
      refine (bits_some w w.heap.size a0 cap xs _ hT1.out).mono ?_; rintro e w2 ⟨x, rfl, hx, hT2, hg⟩; replace hT2 := Lib.hid hT2; clear hg hT1
      have HX := Lib.hid hx
      clear hx
      go_wp2_with fail
      refine (next_some w w.heap.size a0 cap xs _ _ hT2.out (by omega) (by omega)).mono ?_; rintro e w3 ⟨m, rfl, hm, hT3, hg⟩
      replace hT3 := Lib.hid hT3; clear hg hT2
      by_cases h5 : k ≤ 5
      · have h5I : (k : Int) ≤ 5 := by omega
        have hms : wrap64 (m - 1) = m - 1 := by unfold wrap64; omega
        obtain ⟨s, es⟩ : ∃ s, m - 1 = s := ⟨_, rfl⟩
        obtain ⟨K, eK⟩ : ∃ K, scaleN x s = K := ⟨_, rfl⟩
        obtain ⟨C, eC⟩ : ∃ C, scaleC x s = C := ⟨_, rfl⟩
        have HK := Lib.hid eK
        have HC := Lib.hid eC
        rw [es] at hms
        clear eK eC
        go_wp2_with fail
        refine (scale_is HX.out HK.out HC.out _ (tape_tab HT.out hT3.out)).mono ?_; rintro e w4 ⟨rfl, hb⟩
        have hT4 := Lib.hid (tape_more hT3.out hb)
        clear hT3 hb
        go_wp2_with fail
        refine (rscale_is HX.out HK.out HC.out _).mono ?_; rintro e w5 ⟨rfl, rfl⟩
        go_wp2_with fail
        go_roundw
        case rel => exact ⟨k + 1, by omega, by go_num, hT4⟩
        case measure => simp [intOf]; omega
      · rcases (show k = 6 ∨ k = 7 by omega) with rfl | rfl
        · clear h5 hkI hlt hk
          go_upto_region 7 with fail
          first | go_must (go_region_with (go_at_call 18; refine (mod_rng _ _ _ (by omega) (by omega) (by omega) (by omega) Er.out).mono ?_; rintro e wm ⟨rfl, rfl⟩)) | skip
          go_wp2_with fail
          obtain ⟨wz, ewz⟩ : ∃ wz, (w3.alloc (Obj.cells #[Value.int IntKind.i64 i2, Value.int IntKind.i64 r] 3)).drew = wz := ⟨_, rfl⟩
          have hTz : Hid (TapeSome w wz w.heap.size a0 cap xs) := Lib.hid (by rw [← ewz]; exact tape_drew (tape_alloc hT3.out _))
          rw [ewz]
          clear ewz hT3
          obtain ⟨K, eK⟩ : ∃ K, scaleN z i2 = K := ⟨_, rfl⟩
          obtain ⟨C, eC⟩ : ∃ C, scaleC z i2 = C := ⟨_, rfl⟩
          have HK := Lib.hid eK
          have HC := Lib.hid eC
          clear eK eC
          refine (scale_is HZ.out HK.out HC.out _ (tape_tab HT.out hTz.out)).mono ?_
          rintro e w4 ⟨rfl, hb⟩
          have hT4 : Hid (TapeSome w w4 w.heap.size a0 cap xs) := Lib.hid (tape_more hTz.out hb)
          clear hTz hb
          go_wp2_with fail
          refine (rscale_is HZ.out HK.out HC.out _).mono ?_
          rintro e w5 ⟨rfl, rfl⟩
          go_wp2_with fail
          go_roundw
          case rel => exact ⟨7, by omega, by go_num, hT4⟩
          case measure => simp [intOf]
        · clear h5 hkI hlt hk
          go_upto_region 7 with fail
          first | go_must (go_region_with (go_at_call 18; refine (mod_rng _ _ _ (by omega) (by omega) (by omega) (by omega) Er.out).mono ?_; rintro e wm ⟨rfl, rfl⟩)) | skip
          go_wp2_with fail
          obtain ⟨wz, ewz⟩ : ∃ wz, (w3.alloc (Obj.cells #[Value.int IntKind.i64 i2, Value.int IntKind.i64 r] 3)).drew = wz := ⟨_, rfl⟩
          have hTz : Hid (TapeSome w wz w.heap.size a0 cap xs) := Lib.hid (by rw [← ewz]; exact tape_drew (tape_alloc hT3.out _))
          rw [ewz]
          clear ewz hT3
          obtain ⟨K, eK⟩ : ∃ K, scaleN z r = K := ⟨_, rfl⟩
          obtain ⟨C, eC⟩ : ∃ C, scaleC z r = C := ⟨_, rfl⟩
          have HK := Lib.hid eK
          have HC := Lib.hid eC
          clear eK eC
          refine (scale_is HZ.out HK.out HC.out _ (tape_tab HT.out hTz.out)).mono ?_
          rintro e w4 ⟨rfl, hb⟩
          have hT4 : Hid (TapeSome w w4 w.heap.size a0 cap xs) := Lib.hid (tape_more hTz.out hb)
          clear hTz hb
          go_wp2_with fail
          refine (rscale_is HZ.out HK.out HC.out _).mono ?_
          rintro e w5 ⟨rfl, rfl⟩
          go_wp2_with fail
          go_roundw
          case rel => exact ⟨8, by omega, by go_num, hT4⟩
          case measure => simp [intOf]
    · obtain rfl : k = 8 := by omega
      go_wp2_with fail
      refine (sane_is _ (tape_tab HT.out hT1.out)).mono ?_; rintro e w6 ⟨rfl, hb⟩
      have hfin := Lib.hid (bthen (tape_below hT1.out) hb)
      clear hb
      go_wp2_with fail
      go_returns
      exact ⟨rfl, hfin.out⟩
namespace ieeeScales
theorem own : ownKnob Tryd.prog.godebug = none := by kernel_rfl
theorem laid : laidOutB Tryd.prog = true := by kernel_rfl
theorem params_ok : ∀ t ∈ Tryd.f4.params.toList, Tryd.prog.readableRec t = true ∧ t < Tryd.prog.types.size := by
  rw [Tryd.params4]
  intro t ht
  simp at ht
  rcases ht with rfl | rfl | rfl <;> exact ⟨by kernel_rfl, of_decide_eq_true (by kernel_rfl)⟩
set_option maxRecDepth 100000 in
theorem lifted (os : Os) (started : os.Started) (H : Type) (enc : TypeId × Value → H) :
    ReturnsInHanded {} Tryd.checked os 4 .any (fun w args => (Rows.ieeeScalesSpec.pre enc Tryd.prog Tryd.f4 Rows.ieeeScalesRow.domain false w args ∧ laidMetH Tryd.prog Rows.ieeeScalesRow.laid w) ∧ sizedMet enc Tryd.prog Tryd.f4 (OpenSpec.ofChange Rows.ieeeScalesSpec) false w args) (Rows.ieeeScalesSpec.post enc Tryd.prog Tryd.f4 false true false false) := by
  refine returnsInHanded_of_change_and (C := Tryd.checked) (X := fun w _ => laidMetH Tryd.prog Rows.ieeeScalesRow.laid w) (fun _ _ _ hh h => h.of_heap hh) own started (by kernel_rfl) Tryd.func4
    (ChangeSpec.witness_shaped (enc := enc) (C := Tryd.checked) (os := os) (X := fun w _ => laidMetH Tryd.prog Rows.ieeeScalesRow.laid w) false (World.laidAll Tryd.prog os Rows.ieeeScalesRow.laid) #[.slice none 0 0, .int .u64 0, .int .i64 0] 8 (World.laidAll_os _ _ _)
      (World.shaped_of_ZipB (by kernel_rfl) (by kernel_rfl)) (by kernel_rfl) (by kernel_rfl) (by kernel_rfl)
      (by rw [MakeChecks.laidMetH_plain _ _ _ (by kernel_rfl)]; exact laidMet_laidAll _ (by kernel_rfl) (by kernel_rfl))) ?_
  intro W base args ds gs before hval0 hW hcnd _ hL _
  have hval : ∀ (j : Nat) t v, Tryd.f4.params[j]? = some t → args[j]? = some v → Value.okWide Tryd.prog W .any base t v := hval0
  have hW' := hW
  obtain ⟨p, q, hA0, hV, rfl, hfz, hnd⟩ := hW
  have hA : DataW.TrodAll enc Tryd.prog W 0 (fun _ => true) true Tryd.f4.params.toList args.toList ds p := hA0
  rw [Tryd.params4] at hA hval
  obtain ⟨v0, vs0, d0, ds0, p0, q0, hargs, rfl, rfl, h0, r0⟩ := trodAll_cons hA
  obtain ⟨v1, vs1, d1, ds1, p1, q1, rfl, rfl, rfl, h1, r1⟩ := trodAll_cons r0
  obtain ⟨v2, vs2, d2, ds2, p2, q2, rfl, rfl, rfl, h2, r2⟩ := trodAll_cons r1
  obtain ⟨rfl, rfl, rfl⟩ := trodAll_nil r2
  obtain rfl : args = #[v0, v1, v2] := by cases args; simp_all
  obtain ⟨rfl, rfl⟩ := trodVars_none hV
  obtain ⟨a0, len, cap, rfl⟩ := okWide_slice Tryd.underlying22 (hval 0 22 v0 rfl rfl)
  obtain ⟨xs, rfl, hs, hf, hl⟩ := open_list h0
  obtain ⟨i1, rfl, rfl, rfl, w1⟩ := open_int Tryd.underlying23 (hval 1 23 v1 rfl rfl) h1
  obtain ⟨i2, rfl, rfl, rfl, w2⟩ := open_int Tryd.underlying3 (hval 2 3 v2 rfl rfl) h2
  clear hA0 hval0
  have fin : Calls Tryd.prog 4 #[.slice a0 xs.length cap, .int .u64 i1, .int .i64 i2] W (TestPost true W) := scales_walk xs a0 cap i1 i2 W hs hf hl (wfu_bd w1) (wf_bd w2) (tab_laid hL)
  refine fin.mono fun e W' ⟨he, hb⟩ => ?_
  subst he
  exact ⟨_, rfl, law_post laid rfl Tryd.underlying4 params_ok rfl hW' rfl hb⟩

theorem over : Rows.ieeeScalesRow.holds Tryd.pinned (OpenSpec.ofChange Rows.ieeeScalesSpec) :=
  OpenClaim.holds_of_wide 4 Tryd.f4 rfl rfl rfl rfl rfl rfl rfl ⟨rfl, rfl, rfl, rfl, rfl⟩ rfl rfl rfl rfl rfl (by kernel_rfl) Tryd.func4 (by kernel_rfl)
    (of_decide_eq_true (by kernel_rfl)) (by unfold Func.isWrapper; first | (rw [if_pos (by decide +kernel)]; kernel_rfl) | (rw [if_neg (by decide +kernel)]; exact ⟨rfl, rfl⟩))
    (fun os started H enc _ => lifted os started H enc)

/-- the statement -/
theorem proved : Rows.IeeeScalesCardSaid :=
  Claim7.holds_tied_plain_at .later [] [.data] true Rows.ieeeScalesCard.stood.harness false over (fun _ h => by cases h) (by kernel_rfl) (fun _ h => by cases h) ieeeScales_row_tie rfl ⟨rfl, rfl⟩ (by kernel_rfl) rfl
    (fun f fn hf hfn => by
      obtain rfl : f = 4 := Option.some.inj ((show Tryd.prog.funcNamed "tilefarm/tilefarmlaw6.IeeeScales" = some 4 by kernel_rfl).symm.trans hf) |>.symm
      obtain rfl : fn = Tryd.f4 := (Option.some.inj (Tryd.func4.symm.trans hfn)).symm
      exact ⟨by kernel_rfl, fun j t ht => by
        rw [Tryd.params4] at ht
        have hm : t ∈ [22, 23, 3] := by simpa using Array.mem_of_getElem? ht
        have hall : ([22, 23, 3].all fun u => !Tryd.prog.wantsStandIn u) = true := by kernel_rfl
        exact (show Tryd.prog.wantsStandIn t = false by simpa using List.all_eq_true.1 hall t hm)⟩)
    (by kernel_rfl)
#print axioms proved
end ieeeScales
end Go.Proofs.YtnkiieiebldpoaaDoor
