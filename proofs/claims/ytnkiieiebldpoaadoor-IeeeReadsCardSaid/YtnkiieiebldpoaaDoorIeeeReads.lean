/- For all bits the statement IeeeReads returns true: classes, parts and the order of values are those of the reference. Conditions: the table math/bits.deBruijn64tab holds what the program's text lays in it (tied). -/
import Derived.Test.YtnkiieiebldpoaaDoorEKit
namespace Go.Proofs.YtnkiieiebldpoaaDoor
open Go.ChangeShapes Go.WideShapes Go.ChangeAt Go.RowKit
set_option linter.unusedVariables false
set_option linter.unusedSimpArgs false

/-- one number of the list, and only new blocks came -/
abbrev CS (wl : World) (g k : Nat) (v : Int) (w' : World) : Prop := Hid (Below wl.heap.size wl w') ∧ w'.cell? ⟨g, k, none⟩ = some (.int .u64 v)
/-- two numbers of the list, and only new blocks came -/
abbrev CS2 (wl : World) (g k j : Nat) (v u : Int) (w' : World) : Prop := Hid (Below wl.heap.size wl w') ∧ w'.cell? ⟨g, k, none⟩ = some (.int .u64 v) ∧ w'.cell? ⟨g, j, none⟩ = some (.int .u64 u)
theorem rcmp_is {a b c : Int} {g : Bool} (ha : In64u a) (hb : In64u b) (hc : cmpN a b = c) (hg : cmpB a b = g) (w : World) : Calls Tryd.prog 15 #[.int .u64 a, .int .u64 b] w fun e w' => e = .returned (.tuple #[.int .i64 c, .bool g]) ∧ w = w' := by
  have := rcmp_any a b w ha hb
  unfold CmpPost at this
  rw [hc, hg] at this; exact this
set_option maxRecDepth 100000 in
set_option maxHeartbeats 4000000 in
theorem reads_walk (xs : List Int) (a0 : Option Addr) (cap : Nat) (a b : Int) (w : World) (hs : SliceIs w a0 xs) (hf : Fits xs) (hl : xs.length ≤ 9223372036854775807) (ha : In64u a) (hb : In64u b) (hT : TabZ w) :
    Calls Tryd.prog 3 #[.slice a0 xs.length cap, .int .u64 a, .int .u64 b] w (TestPost true w) := by
  have hs' := Lib.hid hs
  have hf' := Lib.hid hf
  have hl' := Lib.hid hl
  have HA := Lib.hid ha
  have HB := Lib.hid hb
  have HT := Lib.hid hT
  have hxa := xor_flip ha
  have hxb := xor_flip hb
  have HA2 := Lib.hid (flip_in ha)
  have HB2 := Lib.hid (flip_in hb)
  obtain ⟨a2, ea⟩ : ∃ a2, flip a = a2 := ⟨_, rfl⟩
  obtain ⟨b2, eb⟩ : ∃ b2, flip b = b2 := ⟨_, rfl⟩
  rw [ea] at hxa HA2
  rw [eb] at hxb HB2
  clear hs hf hl ha hb hT ea eb
  go_enter Tryd.func3, Tryd.ntmps3
  go_wp2_with fail
  refine (new_any a0 cap xs _ hs'.out hf'.out hl'.out).mono ?_; rintro e w1 ⟨rfl, hT1⟩
  replace hT1 : Hid (TapeSome w w1 w.heap.size a0 cap xs) := Lib.hid ⟨0, hT1⟩
  go_wp2_with fail
  refine (bits_some w w.heap.size a0 cap xs _ hT1.out).mono ?_; rintro e w2 ⟨x, rfl, hx, hT2, hg⟩; replace hT2 := Lib.hid hT2; have HX := Lib.hid hx; clear hg hT1 hx
  go_wp2_with fail
  refine (bits_some w w.heap.size a0 cap xs _ hT2.out).mono ?_; rintro e w3 ⟨y, rfl, hy, hT3, hg⟩; replace hT3 := Lib.hid hT3; have HY := Lib.hid hy; clear hg hT2 hy
  go_wp2_with fail
  refine (bits_some w w.heap.size a0 cap xs _ hT3.out).mono ?_; rintro e w4 ⟨z, rfl, hz, hT4, hg⟩; replace hT4 := Lib.hid hT4; have HZ := Lib.hid hz; clear hg hT3 hz
  go_upto_region 3 with fail
  obtain ⟨g, eg⟩ : ∃ g, w4.heap.size = g := ⟨_, rfl⟩
  obtain ⟨wl, ewl⟩ : ∃ wl, w4.alloc (.cells #[.int .u64 a, .int .u64 b, .int .u64 x, .int .u64 y, .int .u64 z, .int .u64 a2, .int .u64 b2] 23) = wl := ⟨_, rfl⟩
  have HC : Hid (∀ j, j < 7 → wl.cell? ⟨g, j, none⟩ = some (.int .u64 ([a, b, x, y, z, a2, b2].getD j 0))) := Lib.hid (by
    intro j hj
    rw [← ewl, ← eg, World.cell?_alloc_new]
    rcases (show j = 0 ∨ j = 1 ∨ j = 2 ∨ j = 3 ∨ j = 4 ∨ j = 5 ∨ j = 6 by omega) with rfl | rfl | rfl | rfl | rfl | rfl | rfl <;> rfl)
  have HF : Hid (∀ j, j < 7 → In64u ([a, b, x, y, z, a2, b2].getD j 0)) := Lib.hid (by
    intro j hj
    rcases (show j = 0 ∨ j = 1 ∨ j = 2 ∨ j = 3 ∨ j = 4 ∨ j = 5 ∨ j = 6 by omega) with rfl | rfl | rfl | rfl | rfl | rfl | rfl
    · exact HA.out
    · exact HB.out
    · exact HX.out
    · exact HY.out
    · exact HZ.out
    · exact HA2.out
    · exact HB2.out)
  have HW : Hid (Below w.heap.size w wl) := Lib.hid (by rw [← ewl]; exact balloc (tape_below hT4.out) _)
  rw [eg]
  simp only [ewl]
  clear ewl eg hT4 HA HB HX HY HZ HA2 HB2 hxa hxb hs' hf' hl'
  obtain ⟨L, eL⟩ : ∃ L, [a, b, x, y, z, a2, b2] = L := ⟨_, rfl⟩
  rw [eL] at HC HF
  clear eL
  go_wp2_with fail
  go_loopw [9] (fun i wr => ∃ k : Nat, k ≤ 7 ∧ i = .int .i64 k ∧ Hid (Below wl.heap.size wl wr)) (fun i _ => 7 - (intOf i).toNat)
  case atStart => exact ⟨0, by omega, rfl, Lib.hid (bref _)⟩
  case round =>
    obtain ⟨k, hk, rfl, HR⟩ := hrel
    by_cases hlt : k < 7
    · have hkI : (k : Int) < 7 := by omega
      obtain ⟨v, ev⟩ : ∃ v, L.getD k 0 = v := ⟨_, rfl⟩
      have HV := Lib.hid (show In64u v by rw [← ev]; exact HF.out k hlt)
      have HCk := Lib.hid (show wl.cell? ⟨g, k, none⟩ = some (.int .u64 v) by rw [← ev]; exact HC.out k hlt)
      have hcell : wr.cell? ⟨g, k, none⟩ = some (.int .u64 v) := bkeep HR.out HCk.out
      clear ev
      obtain ⟨M, eM⟩ : ∃ M, partM v = M := ⟨_, rfl⟩
      obtain ⟨E, eE⟩ : ∃ E, partE v = E := ⟨_, rfl⟩
      obtain ⟨B, eB⟩ : ∃ B, partB v = B := ⟨_, rfl⟩
      obtain ⟨K, eK⟩ : ∃ K, classN v = K := ⟨_, rfl⟩
      have EM := Lib.hid eM
      have EE := Lib.hid eE
      have EB := Lib.hid eB
      have EK := Lib.hid eK
      clear eM eE eB eK
      go_wp2_with fail
      refine (parts_is HV.out EM.out EE.out EB.out _ ((HT.out.below HW.out).below HR.out)).mono ?_; rintro e w6 ⟨rfl, rfl⟩
      go_wp2_with fail
      refine (rparts_is HV.out EM.out EE.out EB.out _).mono ?_; rintro e w6 ⟨rfl, rfl⟩
      go_wp2_with fail
      have hO : CS wl g k v wr.drew := ⟨Lib.hid (bdrewN HR.out 1), hcell⟩
      clear hcell
      haveI : Nonempty (In (CS wl g k v)) := ⟨⟨_, hO⟩⟩
      have k0 : ∀ s : In (CS wl g k v), s.w.cell? ⟨g, k, none⟩ = some (.int .u64 v) := fun s => s.h.2
      refine wp_region_in (S := CS wl g k v) (by kernel_rfl) (by kernel_rfl) hO ?_
      repeat (go_big_quiet_step (first
        | (go_at_call 12; exact in_same _ (class_is HV.out EK.out _))
        | (go_at_call 13; exact in_same _ (rclass_is HV.out EK.out _))))
      refine wpQuiet_nil ?_
      rintro _ ⟨s, rfl⟩
      have HS := Lib.hid s.h.1.out
      obtain ⟨ws, ews⟩ : ∃ ws, s.w = ws := ⟨_, rfl⟩
      rw [ews] at HS ⊢
      clear k0 ews s hO HR
      go_wp2_with fail
      go_loopw [16] (fun i wr => ∃ j : Nat, j ≤ 7 ∧ i = .int .i64 j ∧ Hid (Below wl.heap.size wl wr)) (fun i _ => 7 - (intOf i).toNat)
      case atStart => exact ⟨0, by omega, rfl, HS⟩
      case round =>
        clear HS
        obtain ⟨j, hj, rfl, HR⟩ := hrel
        by_cases hltj : j < 7
        · have hjI : (j : Int) < 7 := by omega
          obtain ⟨u, eu⟩ : ∃ u, L.getD j 0 = u := ⟨_, rfl⟩
          have HU := Lib.hid (show In64u u by rw [← eu]; exact HF.out j hltj)
          have HCj := Lib.hid (show wl.cell? ⟨g, j, none⟩ = some (.int .u64 u) by rw [← eu]; exact HC.out j hltj)
          clear eu
          obtain ⟨D, eD⟩ : ∃ D, cmpN v u = D := ⟨_, rfl⟩
          obtain ⟨G, eG⟩ : ∃ G, cmpB v u = G := ⟨_, rfl⟩
          have ED := Lib.hid eD
          have EG := Lib.hid eG
          clear eD eG
          have hO : CS2 wl g k j v u wr.drew := ⟨Lib.hid (bdrewN HR.out 1), bkeep (bdrewN HR.out 1) HCk.out, bkeep (bdrewN HR.out 1) HCj.out⟩
          haveI : Nonempty (In (CS2 wl g k j v u)) := ⟨⟨_, hO⟩⟩
          have k0 : ∀ s : In (CS2 wl g k j v u), s.w.cell? ⟨g, k, none⟩ = some (.int .u64 v) := fun s => s.h.2.1
          have k1 : ∀ s : In (CS2 wl g k j v u), s.w.cell? ⟨g, j, none⟩ = some (.int .u64 u) := fun s => s.h.2.2
          go_wp2_with fail
          refine wp_region_in (S := CS2 wl g k j v u) (by kernel_rfl) (by kernel_rfl) hO ?_
          repeat (go_big_quiet_step (first | (go_at_call 14; exact in_same _ (cmp_is HV.out HU.out ED.out EG.out _))))
          refine wpQuiet_nil ?_
          rintro _ ⟨s, rfl⟩
          have HS := Lib.hid s.h.1.out
          obtain ⟨ws2, ews⟩ : ∃ ws, s.w = ws := ⟨_, rfl⟩
          rw [ews] at HS ⊢
          clear ews s hO HR
          have hO : CS2 wl g k j v u ws2.drew := ⟨Lib.hid (bdrewN HS.out 1), bkeep (bdrewN HS.out 1) HCk.out, bkeep (bdrewN HS.out 1) HCj.out⟩
          go_wp2_with fail
          refine wp_region_in (S := CS2 wl g k j v u) (by kernel_rfl) (by kernel_rfl) hO ?_
          repeat (go_big_quiet_step (first | (go_at_call 15; exact in_same _ (rcmp_is HV.out HU.out ED.out EG.out _))))
          refine wpQuiet_nil ?_
          rintro _ ⟨s, rfl⟩
          have HS3 := Lib.hid s.h.1.out
          obtain ⟨ws3, ews⟩ : ∃ ws, s.w = ws := ⟨_, rfl⟩
          rw [ews] at HS3 ⊢
          clear ews s hO HS k0 k1
          go_wp2_with fail
          go_roundw
          case rel => exact ⟨j + 1, by omega, by go_num, HS3⟩
          case measure => simp [intOf]; omega
        · obtain rfl : j = 7 := by omega
          go_wp2_with fail
          go_roundw
          case rel => exact ⟨k + 1, by omega, by go_num, HR⟩
          case measure => simp [intOf]; omega
    · obtain rfl : k = 7 := by omega
      go_wp2_with fail
      refine (sane_is _ ((HT.out.below HW.out).below HR.out)).mono ?_; rintro e w6 ⟨rfl, hb⟩
      have hfin := Lib.hid (bthen (bthen HW.out HR.out) hb)
      clear hb
      go_wp2_with fail
      go_returns
      exact ⟨rfl, hfin.out⟩
namespace ieeeReads
theorem own : ownKnob Tryd.prog.godebug = none := by kernel_rfl
theorem laid : laidOutB Tryd.prog = true := by kernel_rfl
theorem params_ok : ∀ t ∈ Tryd.f3.params.toList, Tryd.prog.readableRec t = true ∧ t < Tryd.prog.types.size := by
  rw [Tryd.params3]
  intro t ht
  simp at ht
  rcases ht with rfl | rfl | rfl <;> exact ⟨by kernel_rfl, of_decide_eq_true (by kernel_rfl)⟩
set_option maxRecDepth 100000 in
theorem lifted (os : Os) (started : os.Started) (H : Type) (enc : TypeId × Value → H) :
    ReturnsInHanded {} Tryd.checked os 3 .any (fun w args => (Rows.ieeeReadsSpec.pre enc Tryd.prog Tryd.f3 Rows.ieeeReadsRow.domain false w args ∧ laidMetH Tryd.prog Rows.ieeeReadsRow.laid w) ∧ sizedMet enc Tryd.prog Tryd.f3 (OpenSpec.ofChange Rows.ieeeReadsSpec) false w args) (Rows.ieeeReadsSpec.post enc Tryd.prog Tryd.f3 false true false false) := by
  refine returnsInHanded_of_change_and (C := Tryd.checked) (X := fun w _ => laidMetH Tryd.prog Rows.ieeeReadsRow.laid w) (fun _ _ _ hh h => h.of_heap hh) own started (by kernel_rfl) Tryd.func3
    (ChangeSpec.witness_shaped (enc := enc) (C := Tryd.checked) (os := os) (X := fun w _ => laidMetH Tryd.prog Rows.ieeeReadsRow.laid w) false (World.laidAll Tryd.prog os Rows.ieeeReadsRow.laid) #[.slice none 0 0, .int .u64 0, .int .u64 0] 8 (World.laidAll_os _ _ _)
      (World.shaped_of_ZipB (by kernel_rfl) (by kernel_rfl)) (by kernel_rfl) (by kernel_rfl) (by kernel_rfl)
      (by rw [MakeChecks.laidMetH_plain _ _ _ (by kernel_rfl)]; exact laidMet_laidAll _ (by kernel_rfl) (by kernel_rfl))) ?_
  intro W base args ds gs before hval0 hW hcnd _ hL _
  have hval : ∀ (j : Nat) t v, Tryd.f3.params[j]? = some t → args[j]? = some v → Value.okWide Tryd.prog W .any base t v := hval0
  have hW' := hW
  obtain ⟨p, q, hA0, hV, rfl, hfz, hnd⟩ := hW
  have hA : DataW.TrodAll enc Tryd.prog W 0 (fun _ => true) true Tryd.f3.params.toList args.toList ds p := hA0
  rw [Tryd.params3] at hA hval
  obtain ⟨v0, vs0, d0, ds0, p0, q0, hargs, rfl, rfl, h0, r0⟩ := trodAll_cons hA
  obtain ⟨v1, vs1, d1, ds1, p1, q1, rfl, rfl, rfl, h1, r1⟩ := trodAll_cons r0
  obtain ⟨v2, vs2, d2, ds2, p2, q2, rfl, rfl, rfl, h2, r2⟩ := trodAll_cons r1
  obtain ⟨rfl, rfl, rfl⟩ := trodAll_nil r2
  obtain rfl : args = #[v0, v1, v2] := by cases args; simp_all
  obtain ⟨rfl, rfl⟩ := trodVars_none hV
  obtain ⟨a0, len, cap, rfl⟩ := okWide_slice Tryd.underlying22 (hval 0 22 v0 rfl rfl)
  obtain ⟨xs, rfl, hs, hf, hl⟩ := open_list h0
  obtain ⟨i1, rfl, rfl, rfl, w1⟩ := open_int Tryd.underlying23 (hval 1 23 v1 rfl rfl) h1
  obtain ⟨i2, rfl, rfl, rfl, w2⟩ := open_int Tryd.underlying23 (hval 2 23 v2 rfl rfl) h2
  clear hA0 hval0
  have fin : Calls Tryd.prog 3 #[.slice a0 xs.length cap, .int .u64 i1, .int .u64 i2] W (TestPost true W) := reads_walk xs a0 cap i1 i2 W hs hf hl (wfu_bd w1) (wfu_bd w2) (tab_laid hL)
  refine fin.mono fun e W' ⟨he, hb⟩ => ?_
  subst he
  exact ⟨_, rfl, law_post laid rfl Tryd.underlying4 params_ok rfl hW' rfl hb⟩

theorem over : Rows.ieeeReadsRow.holds Tryd.pinned (OpenSpec.ofChange Rows.ieeeReadsSpec) :=
  OpenClaim.holds_of_wide 3 Tryd.f3 rfl rfl rfl rfl rfl rfl rfl ⟨rfl, rfl, rfl, rfl, rfl⟩ rfl rfl rfl rfl rfl (by kernel_rfl) Tryd.func3 (by kernel_rfl)
    (of_decide_eq_true (by kernel_rfl)) (by unfold Func.isWrapper; first | (rw [if_pos (by decide +kernel)]; kernel_rfl) | (rw [if_neg (by decide +kernel)]; exact ⟨rfl, rfl⟩))
    (fun os started H enc _ => lifted os started H enc)

/-- the statement -/
theorem proved : Rows.IeeeReadsCardSaid :=
  Claim7.holds_tied_plain_at .later [] [.data] true Rows.ieeeReadsCard.stood.harness false over (fun _ h => by cases h) (by kernel_rfl) (fun _ h => by cases h) ieeeReads_row_tie rfl ⟨rfl, rfl⟩ (by kernel_rfl) rfl
    (fun f fn hf hfn => by
      obtain rfl : f = 3 := Option.some.inj ((show Tryd.prog.funcNamed "tilefarm/tilefarmlaw6.IeeeReads" = some 3 by kernel_rfl).symm.trans hf) |>.symm
      obtain rfl : fn = Tryd.f3 := (Option.some.inj (Tryd.func3.symm.trans hfn)).symm
      exact ⟨by kernel_rfl, fun j t ht => by
        rw [Tryd.params3] at ht
        have hm : t ∈ [22, 23, 23] := by simpa using Array.mem_of_getElem? ht
        have hall : ([22, 23, 23].all fun u => !Tryd.prog.wantsStandIn u) = true := by kernel_rfl
        exact (show Tryd.prog.wantsStandIn t = false by simpa using List.all_eq_true.1 hall t hm)⟩)
    (by kernel_rfl)
#print axioms proved
end ieeeReads
end Go.Proofs.YtnkiieiebldpoaaDoor
