/- For every list of numbers, every seven ints and every rectangle the statement GridTiles returns true: the functions of a grid agree with the reference. No condition on them. -/
import Derived.Test.YtpbapamoihkaoaaGAgree
import Derived.Test.YtpbapamoihkaoaaQuietIn
import Derived.Test.YtpbapamoihkaoaaRect
namespace Go.Proofs.Ytpbapamoihkaoaa
open Go.ChangeShapes Go.WideShapes Go.ChangeAt Go.RowKit
set_option linter.unusedVariables false
set_option linter.unusedSimpArgs false

/-- one box, laid open, and hidden that only new blocks came -/
abbrev OneB (w : World) (q : Nat) (a b c d : Int) (w' : World) : Prop := Hid (Below w.heap.size w w') ∧ BoxA w' q a b c d
theorem oneB_below {w : World} {q : Nat} {a b c d : Int} {w' w'' : World} (hb : Below w'.heap.size w' w'') (h : OneB w q a b c d w') : OneB w q a b c d w'' := ⟨Lib.hid (bthen h.1.out hb), boxA_below hb h.2⟩
theorem agrees_is (w h t u i x y a b c d : Int) (W : World) : Calls Try.prog 12 #[.int .i64 w, .int .i64 h, .int .i64 t, .int .i64 u, .int .i64 i, .int .i64 x, .int .i64 y, .agg #[.int .i64 a, .int .i64 b, .int .i64 c, .int .i64 d]] W fun e w' => e = .returned (.bool true) ∧ Below W.heap.size W w' := agrees_any w h t u i x y a b c d W
theorem sane_is (W : World) : Calls Try.prog 10 #[] W fun e w' => e = .returned (.bool true) ∧ Below W.heap.size W w' := sane_any W
theorem pos_mod (i n : Int) (h : 0 < n) : 0 ≤ i % n ∧ i % n < n := ⟨Int.emod_nonneg _ (by omega), Int.emod_lt_of_pos _ h⟩
set_option maxRecDepth 100000 in
set_option maxHeartbeats 4000000 in
theorem tiles_walk (xs : List Int) (a0 : Option Addr) (cap : Nat) (i1 i2 i3 i4 i5 i6 i7 a b c d : Int) (w : World) (hs : SliceIs w a0 xs) (hf : Fits xs) (hl : xs.length ≤ 9223372036854775807)
    (f1 : -9223372036854775808 ≤ i1 ∧ i1 ≤ 9223372036854775807) (f2 : -9223372036854775808 ≤ i2 ∧ i2 ≤ 9223372036854775807) (f3 : -9223372036854775808 ≤ i3 ∧ i3 ≤ 9223372036854775807) (f4 : -9223372036854775808 ≤ i4 ∧ i4 ≤ 9223372036854775807) :
    Calls Try.prog 4 #[.slice a0 xs.length cap, .int .i64 i1, .int .i64 i2, .int .i64 i3, .int .i64 i4, .int .i64 i5, .int .i64 i6, .int .i64 i7, .agg #[.int .i64 a, .int .i64 b, .int .i64 c, .int .i64 d]] w (TestPost true w) := by
  have hs' := Lib.hid (is_below hs (balloc (bref w) (.cells #[.int .i64 a, .int .i64 b, .int .i64 c, .int .i64 d] 31)))
  have hf' := Lib.hid hf
  have hl' := Lib.hid hl
  clear hs hf hl
  go_enter Try.func4, Try.ntmps4
  go_wp2_with fail
  refine (new_any a0 cap xs _ hs'.out hf'.out hl'.out).mono ?_; rintro e w3 ⟨rfl, hT⟩
  obtain ⟨w2, e2⟩ : ∃ w2, w2 = w.alloc (.cells #[.int .i64 a, .int .i64 b, .int .i64 c, .int .i64 d] 31) := ⟨_, rfl⟩
  have hX : Hid (OneB w w.heap.size a b c d w2) := Lib.hid (by rw [e2]; exact ⟨Lib.hid (balloc (bref w) _), Box.new _ _ _ _ _ _⟩)
  rw [← e2] at hT ⊢
  replace hT : Hid (TapeSome w2 w3 w2.heap.size a0 cap xs) := Lib.hid ⟨0, hT⟩
  clear e2 hs'
  go_wp2_with fail
  go_loopw [20] (fun i wr => ∃ k : Nat, k ≤ 5 ∧ i = .int .i64 k ∧ Hid (TapeSome w2 wr w2.heap.size a0 cap xs)) (fun i _ => 5 - (intOf i).toNat)
  case atStart => exact ⟨0, by omega, rfl, hT⟩
  case round =>
    clear hT
    obtain ⟨k, hk, rfl, hT⟩ := hrel
    by_cases hlt : k < 5
    · have hkI : (k : Int) < 5 := by omega
      go_wp2_with fail
      refine (next_some w2 w2.heap.size a0 cap xs _ _ hT.out (by omega) (by omega)).mono ?_; rintro e w4 ⟨m1, rfl, hm1, hT4, hg⟩; replace hT4 := Lib.hid hT4; clear hg hT
      go_wp2_with fail
      refine (next_some w2 w2.heap.size a0 cap xs _ _ hT4.out (by omega) (by omega)).mono ?_; rintro e w5 ⟨m2, rfl, hm2, hT5, hg⟩; replace hT5 := Lib.hid hT5; clear hg hT4
      go_wp2_with fail
      refine (next_some w2 w2.heap.size a0 cap xs _ _ hT5.out (by omega) (by omega)).mono ?_; rintro e w6 ⟨m3, rfl, hm3, hT6, hg⟩; replace hT6 := Lib.hid hT6; clear hg hT5
      go_wp2_with fail
      refine (next_some w2 w2.heap.size a0 cap xs _ _ hT6.out (by omega) (by omega)).mono ?_; rintro e w7 ⟨m4, rfl, hm4, hT7, hg⟩; replace hT7 := Lib.hid hT7; clear hg hT6
      go_wp2_with fail
      refine (next_some w2 w2.heap.size a0 cap xs _ _ hT7.out (by omega) (by omega)).mono ?_; rintro e w8 ⟨m5, rfl, hm5, hT8, hg⟩; replace hT8 := Lib.hid hT8; clear hg hT7
      go_wp2_with fail
      refine (next_some w2 w2.heap.size a0 cap xs _ _ hT8.out (by omega) (by omega)).mono ?_; rintro e w9 ⟨m6, rfl, hm6, hT9, hg⟩; replace hT9 := Lib.hid hT9; clear hg hT8
      go_wp2_with fail
      refine (next_some w2 w2.heap.size a0 cap xs _ _ hT9.out (by omega) (by omega)).mono ?_; rintro e w10 ⟨m7, rfl, hm7, hT10, hg⟩; replace hT10 := Lib.hid hT10; clear hg hT9
      go_wp2_with fail
      refine (rect_some w2 w2.heap.size a0 cap xs _ hT10.out).mono ?_; rintro e w11 ⟨X0, Y0, X1, Y1, rfl, hbd, hT11, hg⟩; replace hT11 := Lib.hid hT11; clear hg hT10 hbd
      go_wp2_with fail
      refine (agrees_any _ _ _ _ _ _ _ _ _ _ _ _).mono ?_; rintro e w12 ⟨rfl, hb⟩
      have hT12 := Lib.hid (show TapeSome w2 w12 w2.heap.size a0 cap xs from hT11.out.more hb)
      clear hT11 hb
      go_wp2_with fail
      go_roundw
      case rel => exact ⟨k + 1, by omega, by go_num, hT12⟩
      case measure => simp [intOf]; omega
    · obtain rfl : k = 5 := by omega
      have hO : OneB w w.heap.size a b c d wr.drew := oneB_below (bthen (show Below w2.heap.size w2 wr from hT.out.choose_spec.below) (bdrewN (bref wr) 1)) hX.out
      obtain ⟨r1, e1⟩ : ∃ r, i1 % 128 = r := ⟨_, rfl⟩
      obtain ⟨r2, e2⟩ : ∃ r, i2 % 40 = r := ⟨_, rfl⟩
      obtain ⟨r3, e3⟩ : ∃ r, i3 % 64 = r := ⟨_, rfl⟩
      obtain ⟨s1, e4⟩ : ∃ r, i1 % 30 = r := ⟨_, rfl⟩
      obtain ⟨s2, e5⟩ : ∃ r, i2 % 30 = r := ⟨_, rfl⟩
      obtain ⟨s3, e6⟩ : ∃ r, i3 % 8 = r := ⟨_, rfl⟩
      obtain ⟨s4, e7⟩ : ∃ r, i4 % 8 = r := ⟨_, rfl⟩
      have g1 : 0 ≤ r1 ∧ r1 < 128 := by omega
      have g2 : 0 ≤ r2 ∧ r2 < 40 := by omega
      have g3 : 0 ≤ r3 ∧ r3 < 64 := by omega
      have g4 : 0 ≤ s1 ∧ s1 < 30 := by omega
      have g5 : 0 ≤ s2 ∧ s2 < 30 := by omega
      have g6 : 0 ≤ s3 ∧ s3 < 8 := by omega
      have g7 : 0 ≤ s4 ∧ s4 < 8 := by omega
      have E1 := Lib.hid e1
      have E2 := Lib.hid e2
      have E3 := Lib.hid e3
      have E4 := Lib.hid e4
      have E5 := Lib.hid e5
      have E6 := Lib.hid e6
      have E7 := Lib.hid e7
      clear e1 e2 e3 e4 e5 e6 e7 hT hX hf' hl'
      go_wp2_with fail
      haveI : Nonempty (In (OneB w w.heap.size a b c d)) := ⟨⟨_, hO⟩⟩
      have k0 : ∀ s : In (OneB w w.heap.size a b c d), s.w.cell? ⟨w.heap.size, 0, none⟩ = some (.int .i64 a) := fun s => s.h.2.1
      have k1 : ∀ s : In (OneB w w.heap.size a b c d), s.w.cell? ⟨w.heap.size, 1, none⟩ = some (.int .i64 b) := fun s => s.h.2.2.1
      have k2 : ∀ s : In (OneB w w.heap.size a b c d), s.w.cell? ⟨w.heap.size, 2, none⟩ = some (.int .i64 c) := fun s => s.h.2.2.2.1
      have k3 : ∀ s : In (OneB w w.heap.size a b c d), s.w.cell? ⟨w.heap.size, 3, none⟩ = some (.int .i64 d) := fun s => s.h.2.2.2.2
      refine wp_region_in (S := OneB w w.heap.size a b c d) (by kernel_rfl) (by kernel_rfl) hO ?_
      repeat (go_big_quiet_step (first
        | (go_at_call 7; first | exact in_same _ (mod_rng _ _ _ (by omega) (by omega) (by omega) (by omega) E1.out) | exact in_same _ (mod_rng _ _ _ (by omega) (by omega) (by omega) (by omega) E2.out) | exact in_same _ (mod_rng _ _ _ (by omega) (by omega) (by omega) (by omega) E3.out) | exact in_same _ (mod_rng _ _ _ (by omega) (by omega) (by omega) (by omega) E4.out) | exact in_same _ (mod_rng _ _ _ (by omega) (by omega) (by omega) (by omega) E5.out) | exact in_same _ (mod_rng _ _ _ (by omega) (by omega) (by omega) (by omega) E6.out) | exact in_same _ (mod_rng _ _ _ (by omega) (by omega) (by omega) (by omega) E7.out))
        | (go_at_call 12; exact in_below _ (fun hb h => oneB_below hb h) (agrees_is _ _ _ _ _ _ _ _ _ _ _ _))
        | (go_at_call 10; exact in_below _ (fun hb h => oneB_below hb h) (sane_is _))))
      refine wpQuiet_nil ?_
      rintro _ ⟨s, rfl⟩
      have hfin := Lib.hid s.h.1.out
      clear k0 k1 k2 k3
      go_wp2_with fail
      go_ret
      exact ⟨rfl, hfin.out⟩
namespace gridTiles
theorem own : ownKnob Try.prog.godebug = none := by kernel_rfl
theorem laid : laidOutB Try.prog = true := by kernel_rfl
theorem cells26 : Try.prog.cellsOf 31 = 4 := by kernel_rfl
theorem params_ok : ∀ t ∈ Try.f4.params.toList, Try.prog.readableRec t = true ∧ t < Try.prog.types.size := by
  rw [Try.params4]
  intro t ht
  simp at ht
  rcases ht with rfl | rfl | rfl | rfl | rfl | rfl | rfl | rfl | rfl <;> exact ⟨by kernel_rfl, of_decide_eq_true (by kernel_rfl)⟩
set_option maxRecDepth 100000 in
theorem lifted (os : Os) (started : os.Started) (H : Type) (enc : TypeId × Value → H) :
    ReturnsInHanded {} Try.checked os 4 .any (Rows.gridTilesSpec.pre6 enc Try.prog Try.f4 Rows.gridTilesRow.domain false) (Rows.gridTilesSpec.post enc Try.prog Try.f4 false true false false) := by
  refine returnsInHanded_of_change (C := Try.checked) own started (by kernel_rfl) Try.func4
    (ChangeSpec.witness6 (enc := enc) (C := Try.checked) false ⟨#[], #[.slice none 0 0, .int .i64 0, .int .i64 0, .int .i64 0, .int .i64 0, .int .i64 0, .int .i64 0, .int .i64 0, .agg #[.int .i64 0, .int .i64 0, .int .i64 0, .int .i64 0]], []⟩ 8 (by kernel_rfl) (by kernel_rfl) (by kernel_rfl) (by kernel_rfl)) ?_
  intro W base args ds gs before hval0 hW hcnd _
  have hval : ∀ (j : Nat) t v, Try.f4.params[j]? = some t → args[j]? = some v → Value.okWide Try.prog W .any base t v := hval0
  have hW' := hW
  obtain ⟨p, q, hA0, hV, rfl, hfz, hnd⟩ := hW
  have hA : DataW.TrodAll enc Try.prog W 0 (fun _ => true) true Try.f4.params.toList args.toList ds p := hA0
  rw [Try.params4] at hA hval
  obtain ⟨v0, vs0, d0, ds0, p0, q0, hargs, rfl, rfl, h0, r0⟩ := trodAll_cons hA
  obtain ⟨v1, vs1, d1, ds1, p1, q1, rfl, rfl, rfl, h1, r1⟩ := trodAll_cons r0
  obtain ⟨v2, vs2, d2, ds2, p2, q2, rfl, rfl, rfl, h2, r2⟩ := trodAll_cons r1
  obtain ⟨v3, vs3, d3, ds3, p3, q3, rfl, rfl, rfl, h3, r3⟩ := trodAll_cons r2
  obtain ⟨v4, vs4, d4, ds4, p4, q4, rfl, rfl, rfl, h4, r4⟩ := trodAll_cons r3
  obtain ⟨v5, vs5, d5, ds5, p5, q5, rfl, rfl, rfl, h5, r5⟩ := trodAll_cons r4
  obtain ⟨v6, vs6, d6, ds6, p6, q6, rfl, rfl, rfl, h6, r6⟩ := trodAll_cons r5
  obtain ⟨v7, vs7, d7, ds7, p7, q7, rfl, rfl, rfl, h7, r7⟩ := trodAll_cons r6
  obtain ⟨v8, vs8, d8, ds8, p8, q8, rfl, rfl, rfl, h8, r8⟩ := trodAll_cons r7
  obtain ⟨rfl, rfl, rfl⟩ := trodAll_nil r8
  obtain rfl : args = #[v0, v1, v2, v3, v4, v5, v6, v7, v8] := by cases args; simp_all
  obtain ⟨rfl, rfl⟩ := trodVars_none hV
  obtain ⟨a0, len, cap, rfl⟩ := okWide_slice Try.underlying29 (hval 0 29 v0 rfl rfl)
  obtain ⟨xs, rfl, hs, hf, hl⟩ := open_list h0
  obtain ⟨i1, rfl, rfl, rfl, w1⟩ := open_int Try.underlying3 (hval 1 3 v1 rfl rfl) h1
  obtain ⟨i2, rfl, rfl, rfl, w2⟩ := open_int Try.underlying3 (hval 2 3 v2 rfl rfl) h2
  obtain ⟨i3, rfl, rfl, rfl, w3⟩ := open_int Try.underlying3 (hval 3 3 v3 rfl rfl) h3
  obtain ⟨i4, rfl, rfl, rfl, w4⟩ := open_int Try.underlying3 (hval 4 3 v4 rfl rfl) h4
  obtain ⟨i5, rfl, rfl, rfl, w5⟩ := open_int Try.underlying3 (hval 5 3 v5 rfl rfl) h5
  obtain ⟨i6, rfl, rfl, rfl, w6⟩ := open_int Try.underlying3 (hval 6 3 v6 rfl rfl) h6
  obtain ⟨i7, rfl, rfl, rfl, w7⟩ := open_int Try.underlying3 (hval 7 3 v7 rfl rfl) h7
  obtain ⟨c0, c1, c2, c3, y0, y1, y2, y3, m, rfl, rfl, rfl, hy0, hy1, hy2, hy3⟩ := Joins.open_agg4 Try.underlying31 (by kernel_rfl) cells26 (hval 8 31 v8 rfl rfl) h8
  obtain ⟨r8a, ez, _, _⟩ := DataW.trod_int Try.underlying3 hy0
  simp only [List.cons.injEq, and_true] at ez
  subst ez
  obtain ⟨r8b, ez, _, _⟩ := DataW.trod_int Try.underlying3 hy1
  simp only [List.cons.injEq, and_true] at ez
  subst ez
  obtain ⟨r8c, ez, _, _⟩ := DataW.trod_int Try.underlying3 hy2
  simp only [List.cons.injEq, and_true] at ez
  subst ez
  obtain ⟨r8d, ez, _, _⟩ := DataW.trod_int Try.underlying3 hy3
  simp only [List.cons.injEq, and_true] at ez
  subst ez
  clear hA0 hval0
  have fin : Calls Try.prog 4 #[.slice a0 xs.length cap, .int .i64 i1, .int .i64 i2, .int .i64 i3, .int .i64 i4, .int .i64 i5, .int .i64 i6, .int .i64 i7, .agg #[.int .i64 r8a, .int .i64 r8b, .int .i64 r8c, .int .i64 r8d]] W (TestPost true W) := tiles_walk xs a0 cap i1 i2 i3 i4 i5 i6 i7 r8a r8b r8c r8d W hs hf hl (wf_bd w1) (wf_bd w2) (wf_bd w3) (wf_bd w4)
  refine fin.mono fun e W' ⟨he, hb⟩ => ?_
  subst he
  exact ⟨_, rfl, law_post laid rfl Try.underlying4 params_ok rfl hW' rfl hb⟩

theorem over : Rows.gridTilesRow.holds Try.pinned (OpenSpec.ofChange Rows.gridTilesSpec) :=
  OpenClaim.holds_of_wide 4 Try.f4 rfl rfl rfl rfl rfl rfl rfl ⟨rfl, rfl, rfl, rfl, rfl⟩ rfl rfl rfl rfl rfl (by kernel_rfl) Try.func4 (by kernel_rfl)
    (of_decide_eq_true (by kernel_rfl)) (by unfold Func.isWrapper; first | (rw [if_pos (by decide +kernel)]; kernel_rfl) | (rw [if_neg (by decide +kernel)]; exact ⟨rfl, rfl⟩))
    (fun os started H enc _ => lifted os started H enc)

/-- the statement -/
theorem proved : Rows.GridTilesSaid := over
#print axioms proved
end gridTiles
end Go.Proofs.Ytpbapamoihkaoaa
