/- For every list of numbers and every shift the statement IeeeExact returns true: parts are exact, and values are ordered as their scaled values. Conditions: the table math/bits.deBruijn64tab holds what the program's text lays in it (tied). -/
import Derived.Test.YtnkiieiebldpoaaDoorEKit
namespace Go.Proofs.YtnkiieiebldpoaaDoor
open Go.ChangeShapes Go.WideShapes Go.ChangeAt Go.RowKit
set_option linter.unusedVariables false
set_option linter.unusedSimpArgs false

/-- the first part of a value: zero with its exponent, or odd -/
theorem exact_odd {x : Int} (hc : classN x ≤ 2) : (((partM x).tmod 2 == 0) = true ∧ (partM x == 0) = true ∧ (partE x == 0) = true) ∨ ((partM x).tmod 2 == 0) = false := by
  rcases parts_odd hc with ⟨h1, h2⟩ | ⟨f, h1, h2, h3, _⟩
  · left; rw [h1, h2]; exact ⟨rfl, rfl, rfl⟩
  · right
    simp only [beq_eq_false_iff_ne, ne_eq]
    intro h
    have := Int.emod_eq_zero_of_dvd (Int.dvd_of_tmod_eq_zero h)
    rw [h3] at this
    split at this <;> omega
/-- the order of the values and of what they are scaled to -/
def R9 (C1 C2 D N1 N2 : Int) (G : Bool) : Prop := (C1 = 0 ∧ (C2 == 0) = false) ∨ (C1 = 0 ∧ C2 = 0 ∧ G = true ∧ D < 0 ∧ N1 ≤ N2) ∨ (C1 = 0 ∧ C2 = 0 ∧ G = true ∧ D = 0 ∧ N1 = N2) ∨ (C1 = 0 ∧ C2 = 0 ∧ G = true ∧ 0 < D ∧ N2 ≤ N1)
theorem r9_any {x y s : Int} (hx : In64u x) (hy : In64u y) (h : scaleC x s = 0) : R9 (scaleC x s) (scaleC y s) (cmpN x y) (scaleN x s) (scaleN y s) (cmpB x y) := by
  by_cases h2 : scaleC y s = 0
  · obtain ⟨g, g1, g2⟩ := scale_cmp hx hy h h2
    right
    rcases (show cmpN x y < 0 ∨ cmpN x y = 0 ∨ 0 < cmpN x y by omega) with d | d | d
    · left; exact ⟨h, h2, g, d, g1 (by omega)⟩
    · right; left; exact ⟨h, h2, g, d, by have := g1 (by omega); have := g2 (by omega); omega⟩
    · right; right; exact ⟨h, h2, g, d, g2 (by omega)⟩
  · left; exact ⟨h, by simpa using h2⟩
/-- the scaled value where nothing is lost -/
def R11 (E s M N1 : Int) : Prop := E < 0 ∨ (0 ≤ E ∧ 16 ≤ E + s) ∨ ∃ p : Nat, 0 ≤ E ∧ E + s = p ∧ (p : Int) < 16 ∧ wrap64 (M * 2 ^ p) = N1
theorem r11_any {x s : Int} (h : 0 ≤ s ∧ s ≤ 24) (hc : classN x ≤ 2) (ho : scaleC x s = 0) : R11 (partE x) s (partM x) (scaleN x s) := by
  by_cases h1 : partE x < 0
  · exact .inl h1
  · right
    by_cases h2 : 16 ≤ partE x + s
    · exact .inl ⟨by omega, h2⟩
    · right
      obtain ⟨p, hp⟩ : ∃ p : Nat, partE x + s = p := ⟨(partE x + s).toNat, by omega⟩
      refine ⟨p, by omega, hp, by omega, ?_⟩
      have := scale_exact h hc ho hp
      rw [← this]
      have := scale_bd x s
      unfold wrap64; omega
theorem zero_r11 {x s N : Int} (bs : 0 ≤ s ∧ s ≤ 24) (h : R11 0 s 0 N) (hN : scaleN x s = N) (hM : partM x = 0) : N = 0 := by
  by_cases ho : scaleC x s = 0
  · by_cases hc : classN x ≤ 2
    · obtain ⟨f, hf, hm, hd, hz⟩ := parts_size hc
      have hf0 : f = 0 := by rw [hM] at hm; split at hm <;> omega
      subst hf0
      rw [← hN]
      unfold scaleN
      rw [if_pos ho, hz s, near_zero]; simp
    · have := (scale_class (x := x) (s := s) bs (by omega)).1; omega
  · rw [← hN]; unfold scaleN; rw [if_neg ho]
theorem zero_way {p : Nat} {N : Int} (h : wrap64 (0 * 2 ^ p) = N) : N = 0 := by
  rw [Int.zero_mul] at h
  rw [← h]; unfold wrap64; omega
set_option maxRecDepth 100000 in
set_option maxHeartbeats 8000000 in
theorem exact_walk (xs : List Int) (a0 : Option Addr) (cap : Nat) (i1 : Int) (w : World) (hs : SliceIs w a0 xs) (hf : Fits xs) (hl : xs.length ≤ 9223372036854775807) (f1 : -9223372036854775808 ≤ i1 ∧ i1 ≤ 9223372036854775807) (hT : TabZ w) :
    Calls Tryd.prog 6 #[.slice a0 xs.length cap, .int .i64 i1] w (TestPost true w) := by
  have hs' := Lib.hid hs
  have hf' := Lib.hid hf
  have hl' := Lib.hid hl
  have HT := Lib.hid hT
  obtain ⟨s, es⟩ : ∃ s, i1 % 25 = s := ⟨_, rfl⟩
  have bs : 0 ≤ s ∧ s ≤ 24 := by omega
  have Es := Lib.hid es
  clear hs hf hl hT es
  go_enter Tryd.func6, Tryd.ntmps6
  go_wp2_with fail
  refine (new_any a0 cap xs _ hs'.out hf'.out hl'.out).mono ?_; rintro e w1 ⟨rfl, hT1⟩
  replace hT1 : Hid (TapeSome w w1 w.heap.size a0 cap xs) := Lib.hid ⟨0, hT1⟩
  go_wp2_with fail
  refine (bits_some w w.heap.size a0 cap xs _ hT1.out).mono ?_; rintro e w2 ⟨x, rfl, hx, hT2, hg⟩; replace hT2 := Lib.hid hT2; clear hg hT1
  go_wp2_with fail
  refine (bits_some w w.heap.size a0 cap xs _ hT2.out).mono ?_; rintro e w3 ⟨y, rfl, hy, hT3, hg⟩; replace hT3 := Lib.hid hT3; clear hg hT2
  go_wp2_with fail
  refine (mod_rng _ _ _ (by omega) (by omega) (by omega) (by omega) Es.out).mono ?_; rintro e w4 ⟨rfl, rfl⟩
  have HX := Lib.hid hx
  have HY := Lib.hid hy
  have hr9 := fun h => r9_any (s := s) hx hy h
  have hr11 := fun h => r11_any (x := x) (s := s) bs h
  have hodd := fun h => exact_odd (x := x) h
  have hno := fun (h : 2 < classN x) => (parts_no h).2.2
  have hyes := fun (h : classN x ≤ 2) => partB_t h
  have hsc := fun (h : 2 < classN x) => (scale_class (x := x) (s := s) bs h).2
  have bM : -9007199254740992 ≤ partM x ∧ partM x ≤ 9007199254740992 := by
    by_cases hc : classN x ≤ 2
    · obtain ⟨f, hf, hm, _⟩ := parts_size hc
      rw [hm]; split <;> omega
    · have := (parts_no (x := x) (by omega)).1; omega
  have bE : -4000 ≤ partE x ∧ partE x ≤ 4000 := by
    by_cases hc : classN x ≤ 2
    · obtain ⟨f, hf, hm, hd, _⟩ := parts_size hc
      omega
    · have := (parts_no (x := x) (by omega)).2.1; omega
  obtain ⟨N1, eN⟩ : ∃ N, scaleN x s = N := ⟨_, rfl⟩
  obtain ⟨N2, eN2⟩ : ∃ N, scaleN y s = N := ⟨_, rfl⟩
  obtain ⟨C1, eC⟩ : ∃ C, scaleC x s = C := ⟨_, rfl⟩
  obtain ⟨C2, eC2⟩ : ∃ C, scaleC y s = C := ⟨_, rfl⟩
  obtain ⟨M, eM⟩ : ∃ M, partM x = M := ⟨_, rfl⟩
  obtain ⟨E, eE⟩ : ∃ E, partE x = E := ⟨_, rfl⟩
  obtain ⟨B, eB⟩ : ∃ B, partB x = B := ⟨_, rfl⟩
  obtain ⟨K, eK⟩ : ∃ K, classN x = K := ⟨_, rfl⟩
  obtain ⟨D, eD⟩ : ∃ D, cmpN x y = D := ⟨_, rfl⟩
  obtain ⟨G, eG⟩ : ∃ G, cmpB x y = G := ⟨_, rfl⟩
  rw [eC, eC2, eD, eN, eN2, eG] at hr9
  rw [eK, eC, eE, eM, eN] at hr11
  rw [eK, eM, eE] at hodd
  rw [eK, eB] at hno hyes
  rw [eK, eC] at hsc
  rw [eM] at bM
  rw [eE] at bE
  have EN := Lib.hid eN
  have EN2 := Lib.hid eN2
  have EC := Lib.hid eC
  have EC2 := Lib.hid eC2
  have EM := Lib.hid eM
  have EE := Lib.hid eE
  have EB := Lib.hid eB
  have EK := Lib.hid eK
  have ED := Lib.hid eD
  have EG := Lib.hid eG
  clear hx hy eN eN2 eC eC2 eM eE eB eK eD eG
  -- how a way goes on
  have way : (2 < K ∧ B = false ∧ C1 = 1) ∨ (K ≤ 2 ∧ B = true ∧ (((M.tmod 2 == 0) = true ∧ (M == 0) = true ∧ (E == 0) = true) ∨ (M.tmod 2 == 0) = false) ∧ ((C1 == 0) = false ∨ (R9 C1 C2 D N1 N2 G ∧ R11 E s M N1))) := by
    by_cases h : 2 < K
    · exact .inl ⟨h, hno h, hsc h⟩
    · have h' : K ≤ 2 := by omega
      refine .inr ⟨h', hyes h', hodd h', ?_⟩
      by_cases g : C1 = 0
      · exact .inr ⟨hr9 g, hr11 h' g⟩
      · exact .inl (by simpa using g)
  clear hr9 hr11 hodd hno hyes hsc
  rcases way with ⟨k1, rfl, rfl⟩ | ⟨k1, rfl, k2, k3⟩
  · go_wp2_with fail
    refine (parts_is HX.out EM.out EE.out EB.out _ (tape_tab HT.out hT3.out)).mono ?_; rintro e w6 ⟨rfl, rfl⟩
    go_wp2_with fail
    refine (class_is HX.out EK.out _).mono ?_; rintro e w6 ⟨rfl, rfl⟩
    go_wp2_with fail
    refine (scale_is HX.out EN.out EC.out _ (tape_tab HT.out hT3.out)).mono ?_; rintro e w4 ⟨rfl, hb⟩
    have hT4 := Lib.hid (tape_more hT3.out hb)
    clear hT3 hb
    go_wp2_with fail
    refine (scale_is HY.out EN2.out EC2.out _ (tape_tab HT.out hT4.out)).mono ?_; rintro e w5 ⟨rfl, hb⟩
    have hT5 := Lib.hid (tape_more hT4.out hb)
    clear hT4 hb
    go_wp2_with fail
    refine (cmp_is HX.out HY.out ED.out EG.out _).mono ?_; rintro e w6 ⟨rfl, rfl⟩
    go_wp2_with fail
    refine (sane_is _ (tape_tab HT.out hT5.out)).mono ?_; rintro e w6 ⟨rfl, hb⟩
    have hfin := Lib.hid (bthen (tape_below hT5.out) hb)
    clear hb
    go_wp2_with fail
    go_returns
    exact ⟨rfl, hfin.out⟩
  · rcases k2 with ⟨m1, m2, m3⟩ | m1
    · have hm0 := beq_iff_eq.1 m2
      have he0 := beq_iff_eq.1 m3
      clear m1 m2 m3
      subst hm0 he0
      replace k3 : (C1 == 0) = false ∨ (R9 C1 C2 D N1 N2 G ∧ N1 = 0) := k3.imp_right fun h => ⟨h.1, zero_r11 bs h.2 EN.out EM.out⟩
      go_wp2_with fail
      refine (parts_is HX.out EM.out EE.out EB.out _ (tape_tab HT.out hT3.out)).mono ?_; rintro e w6 ⟨rfl, rfl⟩
      go_wp2_with fail
      refine (class_is HX.out EK.out _).mono ?_; rintro e w6 ⟨rfl, rfl⟩
      go_wp2_with fail
      refine (scale_is HX.out EN.out EC.out _ (tape_tab HT.out hT3.out)).mono ?_; rintro e w4 ⟨rfl, hb⟩
      have hT4 := Lib.hid (tape_more hT3.out hb)
      clear hT3 hb
      go_wp2_with fail
      refine (scale_is HY.out EN2.out EC2.out _ (tape_tab HT.out hT4.out)).mono ?_; rintro e w5 ⟨rfl, hb⟩
      have hT5 := Lib.hid (tape_more hT4.out hb)
      clear hT4 hb
      go_wp2_with fail
      refine (cmp_is HX.out HY.out ED.out EG.out _).mono ?_; rintro e w6 ⟨rfl, rfl⟩
      rcases k3 with k3 | ⟨⟨rfl, n2⟩ | ⟨rfl, rfl, rfl, n2, n3⟩ | ⟨rfl, rfl, rfl, rfl, rfl⟩ | ⟨rfl, rfl, rfl, n2, n3⟩, q⟩
      all_goals (try (have h16 : s < 16 ∨ 16 ≤ s := by omega)); (try subst q); (try rcases h16 with h16 | h16)
      all_goals
        go_wp2_with fail
        refine (sane_is _ (tape_tab HT.out hT5.out)).mono ?_; rintro e w6 ⟨rfl, hb⟩
        have hfin := Lib.hid (bthen (tape_below hT5.out) hb)
        clear hb
        go_wp2_with fail
        go_returns
        exact ⟨rfl, hfin.out⟩
    · have hk1 := m1
      go_wp2_with fail
      refine (parts_is HX.out EM.out EE.out EB.out _ (tape_tab HT.out hT3.out)).mono ?_; rintro e w6 ⟨rfl, rfl⟩
      go_wp2_with fail
      refine (class_is HX.out EK.out _).mono ?_; rintro e w6 ⟨rfl, rfl⟩
      go_wp2_with fail
      refine (scale_is HX.out EN.out EC.out _ (tape_tab HT.out hT3.out)).mono ?_; rintro e w4 ⟨rfl, hb⟩
      have hT4 := Lib.hid (tape_more hT3.out hb)
      clear hT3 hb
      go_wp2_with fail
      refine (scale_is HY.out EN2.out EC2.out _ (tape_tab HT.out hT4.out)).mono ?_; rintro e w5 ⟨rfl, hb⟩
      have hT5 := Lib.hid (tape_more hT4.out hb)
      clear hT4 hb
      go_wp2_with fail
      refine (cmp_is HX.out HY.out ED.out EG.out _).mono ?_; rintro e w6 ⟨rfl, rfl⟩
      rcases k3 with k3 | ⟨⟨rfl, n2⟩ | ⟨rfl, rfl, rfl, n2, n3⟩ | ⟨rfl, rfl, rfl, rfl, rfl⟩ | ⟨rfl, rfl, rfl, n2, n3⟩, q | ⟨q1, q2⟩ | ⟨p, q1, q2, q3, q4⟩⟩
      all_goals
        go_wp2_with fail
        refine (sane_is _ (tape_tab HT.out hT5.out)).mono ?_; rintro e w6 ⟨rfl, hb⟩
        have hfin := Lib.hid (bthen (tape_below hT5.out) hb)
        clear hb
        go_wp2_with fail
        go_returns
        exact ⟨rfl, hfin.out⟩
namespace ieeeExact
theorem own : ownKnob Tryd.prog.godebug = none := by kernel_rfl
theorem laid : laidOutB Tryd.prog = true := by kernel_rfl
theorem params_ok : ∀ t ∈ Tryd.f6.params.toList, Tryd.prog.readableRec t = true ∧ t < Tryd.prog.types.size := by
  rw [Tryd.params6]
  intro t ht
  simp at ht
  rcases ht with rfl | rfl <;> exact ⟨by kernel_rfl, of_decide_eq_true (by kernel_rfl)⟩
set_option maxRecDepth 100000 in
theorem lifted (os : Os) (started : os.Started) (H : Type) (enc : TypeId × Value → H) :
    ReturnsInHanded {} Tryd.checked os 6 .any (fun w args => (Rows.ieeeExactSpec.pre enc Tryd.prog Tryd.f6 Rows.ieeeExactRow.domain false w args ∧ laidMetH Tryd.prog Rows.ieeeExactRow.laid w) ∧ sizedMet enc Tryd.prog Tryd.f6 (OpenSpec.ofChange Rows.ieeeExactSpec) false w args) (Rows.ieeeExactSpec.post enc Tryd.prog Tryd.f6 false true false false) := by
  refine returnsInHanded_of_change_and (C := Tryd.checked) (X := fun w _ => laidMetH Tryd.prog Rows.ieeeExactRow.laid w) (fun _ _ _ hh h => h.of_heap hh) own started (by kernel_rfl) Tryd.func6
    (ChangeSpec.witness_shaped (enc := enc) (C := Tryd.checked) (os := os) (X := fun w _ => laidMetH Tryd.prog Rows.ieeeExactRow.laid w) false (World.laidAll Tryd.prog os Rows.ieeeExactRow.laid) #[.slice none 0 0, .int .i64 0] 8 (World.laidAll_os _ _ _)
      (World.shaped_of_ZipB (by kernel_rfl) (by kernel_rfl)) (by kernel_rfl) (by kernel_rfl) (by kernel_rfl)
      (by rw [MakeChecks.laidMetH_plain _ _ _ (by kernel_rfl)]; exact laidMet_laidAll _ (by kernel_rfl) (by kernel_rfl))) ?_
  intro W base args ds gs before hval0 hW hcnd _ hL _
  have hval : ∀ (j : Nat) t v, Tryd.f6.params[j]? = some t → args[j]? = some v → Value.okWide Tryd.prog W .any base t v := hval0
  have hW' := hW
  obtain ⟨p, q, hA0, hV, rfl, hfz, hnd⟩ := hW
  have hA : DataW.TrodAll enc Tryd.prog W 0 (fun _ => true) true Tryd.f6.params.toList args.toList ds p := hA0
  rw [Tryd.params6] at hA hval
  obtain ⟨v0, vs0, d0, ds0, p0, q0, hargs, rfl, rfl, h0, r0⟩ := trodAll_cons hA
  obtain ⟨v1, vs1, d1, ds1, p1, q1, rfl, rfl, rfl, h1, r1⟩ := trodAll_cons r0
  obtain ⟨rfl, rfl, rfl⟩ := trodAll_nil r1
  obtain rfl : args = #[v0, v1] := by cases args; simp_all
  obtain ⟨rfl, rfl⟩ := trodVars_none hV
  obtain ⟨a0, len, cap, rfl⟩ := okWide_slice Tryd.underlying22 (hval 0 22 v0 rfl rfl)
  obtain ⟨xs, rfl, hs, hf, hl⟩ := open_list h0
  obtain ⟨i1, rfl, rfl, rfl, w1⟩ := open_int Tryd.underlying3 (hval 1 3 v1 rfl rfl) h1
  clear hA0 hval0
  have fin : Calls Tryd.prog 6 #[.slice a0 xs.length cap, .int .i64 i1] W (TestPost true W) := exact_walk xs a0 cap i1 W hs hf hl (wf_bd w1) (tab_laid hL)
  refine fin.mono fun e W' ⟨he, hb⟩ => ?_
  subst he
  exact ⟨_, rfl, law_post laid rfl Tryd.underlying4 params_ok rfl hW' rfl hb⟩

theorem over : Rows.ieeeExactRow.holds Tryd.pinned (OpenSpec.ofChange Rows.ieeeExactSpec) :=
  OpenClaim.holds_of_wide 6 Tryd.f6 rfl rfl rfl rfl rfl rfl rfl ⟨rfl, rfl, rfl, rfl, rfl⟩ rfl rfl rfl rfl rfl (by kernel_rfl) Tryd.func6 (by kernel_rfl)
    (of_decide_eq_true (by kernel_rfl)) (by unfold Func.isWrapper; first | (rw [if_pos (by decide +kernel)]; kernel_rfl) | (rw [if_neg (by decide +kernel)]; exact ⟨rfl, rfl⟩))
    (fun os started H enc _ => lifted os started H enc)

/-- the statement -/
theorem proved : Rows.IeeeExactCardSaid :=
  Claim7.holds_tied_plain_at .later [] [.data] true Rows.ieeeExactCard.stood.harness false over (fun _ h => by cases h) (by kernel_rfl) (fun _ h => by cases h) ieeeExact_row_tie rfl ⟨rfl, rfl⟩ (by kernel_rfl) rfl
    (fun f fn hf hfn => by
      obtain rfl : f = 6 := Option.some.inj ((show Tryd.prog.funcNamed "tilefarm/tilefarmlaw6.IeeeExact" = some 6 by kernel_rfl).symm.trans hf) |>.symm
      obtain rfl : fn = Tryd.f6 := (Option.some.inj (Tryd.func6.symm.trans hfn)).symm
      exact ⟨by kernel_rfl, fun j t ht => by
        rw [Tryd.params6] at ht
        have hm : t ∈ [22, 3] := by simpa using Array.mem_of_getElem? ht
        have hall : ([22, 3].all fun u => !Tryd.prog.wantsStandIn u) = true := by kernel_rfl
        exact (show Tryd.prog.wantsStandIn t = false by simpa using List.all_eq_true.1 hall t hm)⟩)
    (by kernel_rfl)
#print axioms proved
end ieeeExact
end Go.Proofs.YtnkiieiebldpoaaDoor
