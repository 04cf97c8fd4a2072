/- For all five ints the statement GridPartition returns true: each point of a plane is in exactly one tile, that of Of, and the areas of the tiles add up to the plane. No condition on the numbers. -/
import Derived.Test.YtpbapamoihkaoaaGKit
import Derived.Test.YtpbapamoihkaoaaGPartPlain
namespace Go.Proofs.Ytpbapamoihkaoaa
open Go.ChangeShapes Go.WideShapes Go.ChangeAt Go.RowKit
set_option linter.unusedVariables false
set_option linter.unusedSimpArgs false

set_option maxRecDepth 100000 in
set_option maxHeartbeats 4000000 in
theorem part_walk (i0 i1 i2 i3 i4 : Int) (w : World) (f0 : -9223372036854775808 ≤ i0 ∧ i0 ≤ 9223372036854775807) (f1 : -9223372036854775808 ≤ i1 ∧ i1 ≤ 9223372036854775807) (f2 : -9223372036854775808 ≤ i2 ∧ i2 ≤ 9223372036854775807) (f3 : -9223372036854775808 ≤ i3 ∧ i3 ≤ 9223372036854775807) (f4 : -9223372036854775808 ≤ i4 ∧ i4 ≤ 9223372036854775807) :
    Calls Try.prog 5 #[.int .i64 i0, .int .i64 i1, .int .i64 i2, .int .i64 i3, .int .i64 i4] w (TestPost true w) := by
  obtain ⟨a0, ea⟩ : ∃ a, i0 % 30 = a := ⟨_, rfl⟩
  obtain ⟨b0, eb⟩ : ∃ b, i1 % 30 = b := ⟨_, rfl⟩
  obtain ⟨c0, ec⟩ : ∃ c, i2 % 9 = c := ⟨_, rfl⟩
  obtain ⟨d0, ed⟩ : ∃ d, i3 % 9 = d := ⟨_, rfl⟩
  obtain ⟨a, ga⟩ : ∃ a, 1 + a0 = a := ⟨_, rfl⟩
  obtain ⟨b, gb⟩ : ∃ b, 1 + b0 = b := ⟨_, rfl⟩
  obtain ⟨c, gc⟩ : ∃ c, 1 + c0 = c := ⟨_, rfl⟩
  obtain ⟨d, gd⟩ : ∃ d, 1 + d0 = d := ⟨_, rfl⟩
  have ba0 : 0 ≤ a0 ∧ a0 < 30 := by omega
  have bb0 : 0 ≤ b0 ∧ b0 < 30 := by omega
  have bc0 : 0 ≤ c0 ∧ c0 < 9 := by omega
  have bd0 : 0 ≤ d0 ∧ d0 < 9 := by omega
  have ba : 1 ≤ a ∧ a ≤ 30 := by omega
  have bb : 1 ≤ b ∧ b ≤ 30 := by omega
  have bc : 1 ≤ c ∧ c ≤ 9 := by omega
  have bd : 1 ≤ d ∧ d ≤ 9 := by omega
  have bq : 1 ≤ a * b ∧ a * b ≤ 900 := by
    have h1 : 1 * 1 ≤ a * b := Int.mul_le_mul (by omega) (by omega) (by omega) (by omega)
    have h2 : a * b ≤ 30 * 30 := Int.mul_le_mul (by omega) (by omega) (by omega) (by omega)
    omega
  obtain ⟨q, gq⟩ : ∃ q, a * b = q := ⟨_, rfl⟩
  rw [gq] at bq
  obtain ⟨z, ez⟩ : ∃ z, i4 % q = z := ⟨_, rfl⟩
  have bz : 0 ≤ z ∧ z < q := by rw [← ez]; exact ⟨Int.emod_nonneg _ (by omega), Int.emod_lt_of_pos _ (by omega)⟩
  have tx0 : z.tmod a = z % a := Int.tmod_eq_emod_of_nonneg bz.1
  have ty0 : z.tdiv a = z / a := Int.tdiv_eq_ediv_of_nonneg bz.1
  have bx0 : 0 ≤ z % a ∧ z % a < a := ⟨Int.emod_nonneg _ (by omega), Int.emod_lt_of_pos _ (by omega)⟩
  have by0 : 0 ≤ z / a ∧ z / a < b := ⟨Int.ediv_nonneg (by omega) (by omega), Int.ediv_lt_of_lt_mul (by omega) (by rw [Int.mul_comm, gq]; omega)⟩
  obtain ⟨x, gx⟩ : ∃ x, z % a = x := ⟨_, rfl⟩
  obtain ⟨y, gy⟩ : ∃ y, z / a = y := ⟨_, rfl⟩
  rw [gx] at tx0 bx0
  rw [gy] at ty0 by0
  have hf : fineB a b c d = true := fine_of (by omega) (by omega) (by omega) (by omega)
  have ho : ofB a b c d x y = true := ofB_t.2 ⟨hf, by omega⟩
  obtain ⟨C, eC⟩ : ∃ C, colN a b c d = C := ⟨_, rfl⟩
  obtain ⟨R, eR⟩ : ∃ R, rowN a b c d = R := ⟨_, rfl⟩
  obtain ⟨n, en⟩ : ∃ n, ofN a b c d x y = n := ⟨_, rfl⟩
  have hcr := cr_bd a b c d
  have hn := of_bd ho
  rw [← of_yes ho, en, eC, eR] at hn
  have hn0 := (of_rng a b c d x y).1
  rw [en] at hn0
  rw [eC, eR] at hcr
  obtain ⟨N, eN⟩ : ∃ N : Nat, C * R = N := ⟨(C * R).toNat, by omega⟩
  have hnN : n < N := by rw [← eN]; exact hn.2.2.2
  have hN : N ≤ 16384 := by omega
  have hend : areaTo a b c d N = q := by rw [← eN, ← eC, ← eR, areaTo_end hf, gq]
  have hbd : ∀ k : Nat, 0 ≤ areaTo a b c d k ∧ areaTo a b c d k ≤ 900 := fun k => by
    have := areaTo_bd (k := k) hf (by omega)
    rw [gq] at this; omega
  have htile : ∀ k : Nat, k < N → tileB a b c d k = true := fun k hk => by rw [tileB_t, eC, eR, eN]; omega
  have Hpart : Hid (∀ k : Nat, k < N → ∃ x0 y0 x1 y1 : Int, tileR a b c d k = ⟨x0, y0, x1, y1⟩ ∧ insideB x0 y0 x1 y1 0 0 a b = true ∧ (0 ≤ x0 ∧ x0 < x1 ∧ x1 ≤ 128) ∧ (0 ≤ y0 ∧ y0 < y1 ∧ y1 ≤ 128) ∧ x1 - x0 ≤ c ∧ y1 - y0 ≤ d ∧ areaTo a b c d ((k : Int) + 1) = areaTo a b c d k + areaN x0 y0 x1 y1 ∧ (containsB x0 y0 x1 y1 x y = true ↔ (k : Int) = n)) :=
    Lib.hid (fun k hk => by have := part_tile hf (x := x) (y := y) (by omega) (by omega) (htile k hk); rw [en] at this; exact this)
  have H0 := Lib.hid (areaTo_zero a b c d (by omega) (by omega))
  have Hend := Lib.hid hend
  have Hbd := Lib.hid hbd
  have Htile := Lib.hid htile
  have Ea := Lib.hid ea
  have Eb := Lib.hid eb
  have Ec := Lib.hid ec
  have Ed := Lib.hid ed
  have Ez := Lib.hid ez
  have EC := Lib.hid eC
  have ER := Lib.hid eR
  have En := Lib.hid en
  have HO := Lib.hid ho
  have x1 : IntKind.i64.wrap q = q := IntWalk.i64_in _ (by omega)
  have x2 : IntKind.i64.wrap x = x := IntWalk.i64_in _ (by omega)
  have x3 : IntKind.i64.wrap y = y := IntWalk.i64_in _ (by omega)
  have a0' : ¬ a = 0 := by omega
  clear hend hbd htile ea eb ec ed ez eC eR en ho hf hn gx gy hcr
  go_enter Try.func5, Try.ntmps5
  go_wp2_with fail
  refine (mod_rng _ _ _ (by omega) (by omega) (by omega) (by omega) Ea.out).mono ?_; rintro e w1 ⟨rfl, rfl⟩
  go_wp2_with fail
  refine (mod_rng _ _ _ (by omega) (by omega) (by omega) (by omega) Eb.out).mono ?_; rintro e w1 ⟨rfl, rfl⟩
  go_wp2_with fail
  refine (mod_rng _ _ _ (by omega) (by omega) (by omega) (by omega) Ec.out).mono ?_; rintro e w1 ⟨rfl, rfl⟩
  go_wp2_with fail
  refine (mod_rng _ _ _ (by omega) (by omega) (by omega) (by omega) Ed.out).mono ?_; rintro e w1 ⟨rfl, rfl⟩
  go_wp2_with fail
  go_quiet ((go_at_call 7; exact Calls.quiet_of_same (mod_rq _ _ _ (by omega) (by omega) (by omega) (by omega) Ez.out)))
  go_wp2_with fail
  refine (count_is EC.out ER.out _).mono ?_; rintro e w1 ⟨rfl, rfl⟩
  go_wp2_with fail
  refine (gof_is En.out HO.out _).mono ?_; rintro e w1 ⟨rfl, hb⟩
  have HB0 : Hid (Below w.heap.size w w1) := Lib.hid (bthen (bdrewN (bref w) _) hb)
  clear hb tx0 ty0 x1 x2 x3 a0'
  go_wp2_with fail
  go_loopw [21, 22, 23] (fun s f i wr => ∃ (k : Nat) (S F : Int), k ≤ N ∧ i = .int .i64 k ∧ s = .int .i64 S ∧ f = .int .i64 F ∧ (0 ≤ S ∧ S ≤ 900) ∧ (0 ≤ F ∧ F ≤ 1) ∧ Hid (S = areaTo a b c d k) ∧ Hid (F = if n < k then 1 else 0) ∧ Hid (Below w.heap.size w wr)) (fun _ _ i _ => N - (intOf i).toNat)
  case atStart => exact ⟨0, 0, 0, by omega, rfl, rfl, rfl, by omega, by omega, Lib.hid (by rw [Int.natCast_zero, H0.out]), Lib.hid (by rw [if_neg (by omega)]), HB0⟩
  case round =>
    clear HB0
    obtain ⟨k, S, F, hk, rfl, rfl, rfl, bS, bF, HS, HF, HB⟩ := hrel
    by_cases hlt : k < N
    · obtain ⟨x0, y0, x1, y1, eT, eI, bX, bY, hw, hh, hA, hc⟩ := Hpart.out k hlt
      obtain ⟨g, eg⟩ : ∃ g, areaN x0 y0 x1 y1 = g := ⟨_, rfl⟩
      have bg := area_some bX bY
      have bS2 := Hbd.out (k + 1)
      rw [Int.natCast_add, show ((1 : Nat) : Int) = 1 from rfl, hA, eg, ← HS.out] at bS2
      rw [eg] at hA bg
      have HA : Hid (S + g = areaTo a b c d ((k + 1 : Nat) : Int)) := Lib.hid (by rw [Int.natCast_add, show ((1 : Nat) : Int) = 1 from rfl, hA, HS.out])
      have HT := Lib.hid eT
      have HI := Lib.hid eI
      have Hg := Lib.hid eg
      have HtB := Lib.hid (Htile.out k hlt)
      have hkN : (k : Int) < N := by omega
      have hw' : ¬ c < x1 - x0 := by omega
      have hh' : ¬ d < y1 - y0 := by omega
      clear eT eI eg hA
      rcases hv : containsB x0 y0 x1 y1 x y with _ | _
      · have hne : ¬ (k : Int) = n := fun e => by rw [hc.2 e] at hv; cases hv
        have Hv := Lib.hid hv
        have HF2 : Hid (F = if n < ((k + 1 : Nat) : Int) then 1 else 0) := Lib.hid (by
          rw [HF.out]
          by_cases g : n < (k : Int)
          · rw [if_pos g, if_pos (by omega)]
          · rw [if_neg g, if_neg (by omega)])
        clear hv hc hne HF HS
        go_wp2_with fail
        refine (gtile_is HtB.out HT.out _).mono ?_; rintro e w2 ⟨rfl, hb⟩
        have HB2 := Lib.hid (balloc (bthen HB.out hb) (.cells #[.int .i64 x0, .int .i64 y0, .int .i64 x1, .int .i64 y1] 31))
        have HX := Lib.hid (Box.new w2 x0 y0 x1 y1 31)
        clear hb HB
        go_wp2_with fail
        refine (rinside_is HI.out _).mono ?_; rintro e w3 ⟨rfl, hb⟩
        have HB3 := Lib.hid (bthen HB2.out hb)
        have HX3 := Lib.hid (HX.out.below hb)
        obtain ⟨k0, k1, k2, k3⟩ := HX3.out
        clear hb HB2 HX
        go_wp2_with fail
        refine (rarea_is Hg.out _).mono ?_; rintro e w4 ⟨rfl, hb⟩
        have HB4 := Lib.hid (bthen HB3.out hb)
        have HX4 := Lib.hid (HX3.out.below hb)
        clear k0 k1 k2 k3
        obtain ⟨k0, k1, k2, k3⟩ := HX4.out
        clear hb HB3 HX3
        go_wp2_with fail
        refine (rcontains_is Hv.out _).mono ?_; rintro e w5 ⟨rfl, hb⟩
        have HB5 := Lib.hid (bthen HB4.out hb)
        clear hb HB4 HX4 k0 k1 k2 k3
        go_wp2_with fail
        go_roundw
        case rel => exact ⟨k + 1, S + g, F, by omega, by go_num, rfl, rfl, by omega, bF, HA, HF2, HB5⟩
        case measure => simp [intOf]; omega
      · obtain rfl : n = (k : Int) := (hc.1 hv).symm
        have Hv := Lib.hid hv
        obtain rfl : F = 0 := by rw [HF.out, if_neg (by omega)]
        have HF2 : Hid ((1 : Int) = if (k : Int) < ((k + 1 : Nat) : Int) then 1 else 0) := Lib.hid (by rw [if_pos (by omega)])
        clear hv hc HF HS
        go_wp2_with fail
        refine (gtile_is HtB.out HT.out _).mono ?_; rintro e w2 ⟨rfl, hb⟩
        have HB2 := Lib.hid (balloc (bthen HB.out hb) (.cells #[.int .i64 x0, .int .i64 y0, .int .i64 x1, .int .i64 y1] 31))
        have HX := Lib.hid (Box.new w2 x0 y0 x1 y1 31)
        clear hb HB
        go_wp2_with fail
        refine (rinside_is HI.out _).mono ?_; rintro e w3 ⟨rfl, hb⟩
        have HB3 := Lib.hid (bthen HB2.out hb)
        have HX3 := Lib.hid (HX.out.below hb)
        obtain ⟨k0, k1, k2, k3⟩ := HX3.out
        clear hb HB2 HX
        go_wp2_with fail
        refine (rarea_is Hg.out _).mono ?_; rintro e w4 ⟨rfl, hb⟩
        have HB4 := Lib.hid (bthen HB3.out hb)
        have HX4 := Lib.hid (HX3.out.below hb)
        clear k0 k1 k2 k3
        obtain ⟨k0, k1, k2, k3⟩ := HX4.out
        clear hb HB3 HX3
        go_wp2_with fail
        refine (rcontains_is Hv.out _).mono ?_; rintro e w5 ⟨rfl, hb⟩
        have HB5 := Lib.hid (bthen HB4.out hb)
        clear hb HB4 HX4 k0 k1 k2 k3
        go_wp2_with fail
        go_roundw
        case rel => exact ⟨k + 1, S + g, 1, by omega, by go_num, rfl, rfl, by omega, by omega, HA, HF2, HB5⟩
        case measure => simp [intOf]; omega
    · obtain rfl : k = N := by omega
      obtain rfl : S = q := by rw [HS.out, Hend.out]
      obtain rfl : F = 1 := by rw [HF.out, if_pos hnN]
      clear HS HF
      go_wp2_with fail
      refine (sane_any _).mono ?_; rintro e w2 ⟨rfl, hb⟩
      have HB2 := Lib.hid (bthen HB.out hb)
      clear hb HB
      go_wp2_with fail
      go_ret
      exact ⟨rfl, HB2.out⟩
namespace gridPartition
theorem own : ownKnob Try.prog.godebug = none := by kernel_rfl
theorem laid : laidOutB Try.prog = true := by kernel_rfl
theorem params_ok : ∀ t ∈ Try.f5.params.toList, Try.prog.readableRec t = true ∧ t < Try.prog.types.size := by
  rw [Try.params5]
  intro t ht
  simp at ht
  subst ht
  exact ⟨by kernel_rfl, of_decide_eq_true (by kernel_rfl)⟩
set_option maxRecDepth 100000 in
theorem lifted (os : Os) (started : os.Started) (H : Type) (enc : TypeId × Value → H) :
    ReturnsInHanded {} Try.checked os 5 .any (Rows.gridPartitionSpec.pre6 enc Try.prog Try.f5 Rows.gridPartitionRow.domain false) (Rows.gridPartitionSpec.post enc Try.prog Try.f5 false true false false) := by
  refine returnsInHanded_of_change (C := Try.checked) own started (by kernel_rfl) Try.func5
    (ChangeSpec.witness6 (enc := enc) (C := Try.checked) false ⟨#[], #[.int .i64 0, .int .i64 0, .int .i64 0, .int .i64 0, .int .i64 0], []⟩ 8 (by kernel_rfl) (by kernel_rfl) (by kernel_rfl) (by kernel_rfl)) ?_
  intro W base args ds gs before hval0 hW hcnd _
  have hval : ∀ (j : Nat) t v, Try.f5.params[j]? = some t → args[j]? = some v → Value.okWide Try.prog W .any base t v := hval0
  have hW' := hW
  obtain ⟨p, q, hA0, hV, rfl, hfz, hnd⟩ := hW
  have hA : DataW.TrodAll enc Try.prog W 0 (fun _ => true) true Try.f5.params.toList args.toList ds p := hA0
  rw [Try.params5] at hA hval
  obtain ⟨v0, vs0, d0, ds0, p0, q0, hargs, rfl, rfl, h0, r0⟩ := trodAll_cons hA
  obtain ⟨v1, vs1, d1, ds1, p1, q1, rfl, rfl, rfl, h1, r1⟩ := trodAll_cons r0
  obtain ⟨v2, vs2, d2, ds2, p2, q2, rfl, rfl, rfl, h2, r2⟩ := trodAll_cons r1
  obtain ⟨v3, vs3, d3, ds3, p3, q3, rfl, rfl, rfl, h3, r3⟩ := trodAll_cons r2
  obtain ⟨v4, vs4, d4, ds4, p4, q4, rfl, rfl, rfl, h4, r4⟩ := trodAll_cons r3
  obtain ⟨rfl, rfl, rfl⟩ := trodAll_nil r4
  obtain rfl : args = #[v0, v1, v2, v3, v4] := by cases args; simp_all
  obtain ⟨rfl, rfl⟩ := trodVars_none hV
  obtain ⟨i0, rfl, rfl, rfl, w0⟩ := open_int Try.underlying3 (hval 0 3 v0 rfl rfl) h0
  obtain ⟨i1, rfl, rfl, rfl, w1⟩ := open_int Try.underlying3 (hval 1 3 v1 rfl rfl) h1
  obtain ⟨i2, rfl, rfl, rfl, w2⟩ := open_int Try.underlying3 (hval 2 3 v2 rfl rfl) h2
  obtain ⟨i3, rfl, rfl, rfl, w3⟩ := open_int Try.underlying3 (hval 3 3 v3 rfl rfl) h3
  obtain ⟨i4, rfl, rfl, rfl, w4⟩ := open_int Try.underlying3 (hval 4 3 v4 rfl rfl) h4
  clear hA0 hval0
  have fin : Calls Try.prog 5 #[.int .i64 i0, .int .i64 i1, .int .i64 i2, .int .i64 i3, .int .i64 i4] W (TestPost true W) := part_walk i0 i1 i2 i3 i4 W (wf_bd w0) (wf_bd w1) (wf_bd w2) (wf_bd w3) (wf_bd w4)
  refine fin.mono fun e W' ⟨he, hb⟩ => ?_
  subst he
  exact ⟨_, rfl, law_post laid rfl Try.underlying4 params_ok rfl hW' rfl hb⟩

theorem over : Rows.gridPartitionRow.holds Try.pinned (OpenSpec.ofChange Rows.gridPartitionSpec) :=
  OpenClaim.holds_of_wide 5 Try.f5 rfl rfl rfl rfl rfl rfl rfl ⟨rfl, rfl, rfl, rfl, rfl⟩ rfl rfl rfl rfl rfl (by kernel_rfl) Try.func5 (by kernel_rfl)
    (of_decide_eq_true (by kernel_rfl)) (by unfold Func.isWrapper; first | (rw [if_pos (by decide +kernel)]; kernel_rfl) | (rw [if_neg (by decide +kernel)]; exact ⟨rfl, rfl⟩))
    (fun os started H enc _ => lifted os started H enc)

/-- the statement -/
theorem proved : Rows.GridPartitionSaid := over
#print axioms proved
end gridPartition
end Go.Proofs.Ytpbapamoihkaoaa
