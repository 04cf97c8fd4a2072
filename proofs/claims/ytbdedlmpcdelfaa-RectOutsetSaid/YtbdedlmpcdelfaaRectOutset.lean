/- The statement RectOutset: for every list of ints the law function returns true and leaves its argument as it was. No condition. -/
import Derived.Test.YtbdedlmpcdelfaaList
import Derived.Test.YtbdedlmpcdelfaaRIs
import Derived.Test.YtbdedlmpcdelfaaRect
import Derived.Test.YtbdedlmpcdelfaaRAreaPlain
import Derived.Test.YtbdedlmpcdelfaaWithin
namespace Go.Proofs.Ytbdedlmpcdelfaa
open Go.ChangeShapes Go.WideShapes Go.ChangeAt Go.RowKit
set_option linter.unusedVariables false
set_option linter.unusedSimpArgs false

/-- three rectangles lie in three blocks, and only new blocks have come since -/
abbrev OutS (w : World) (i j l : Nat) (x0 y0 x1 y1 u0 v0 u1 v1 s0 t0 s1 t1 : Int) (w' : World) : Prop :=
  Hid (Below w.heap.size w w') ∧ w'.cell? ⟨i, 0, none⟩ = some (.int .i64 x0) ∧ w'.cell? ⟨i, 1, none⟩ = some (.int .i64 y0) ∧ w'.cell? ⟨i, 2, none⟩ = some (.int .i64 x1) ∧ w'.cell? ⟨i, 3, none⟩ = some (.int .i64 y1) ∧
    w'.cell? ⟨j, 0, none⟩ = some (.int .i64 u0) ∧ w'.cell? ⟨j, 1, none⟩ = some (.int .i64 v0) ∧ w'.cell? ⟨j, 2, none⟩ = some (.int .i64 u1) ∧ w'.cell? ⟨j, 3, none⟩ = some (.int .i64 v1) ∧
    w'.cell? ⟨l, 0, none⟩ = some (.int .i64 s0) ∧ w'.cell? ⟨l, 1, none⟩ = some (.int .i64 t0) ∧ w'.cell? ⟨l, 2, none⟩ = some (.int .i64 s1) ∧ w'.cell? ⟨l, 3, none⟩ = some (.int .i64 t1)
theorem outS_keep {w : World} {i j l : Nat} {x0 y0 x1 y1 u0 v0 u1 v1 s0 t0 s1 t1 : Int} {w1 w2 : World} (hb : Below w1.heap.size w1 w2) (h : OutS w i j l x0 y0 x1 y1 u0 v0 u1 v1 s0 t0 s1 t1 w1) : OutS w i j l x0 y0 x1 y1 u0 v0 u1 v1 s0 t0 s1 t1 w2 := by
  obtain ⟨h0, h1, h2, h3, h4, h5, h6, h7, h8, h9, h10, h11, h12⟩ := h
  exact ⟨Lib.hid (bthen h0.out hb), bkeep hb h1, bkeep hb h2, bkeep hb h3, bkeep hb h4, bkeep hb h5, bkeep hb h6, bkeep hb h7, bkeep hb h8, bkeep hb h9, bkeep hb h10, bkeep hb h11, bkeep hb h12⟩
/-- a rectangle lies in a block -/
def OneS (i : Nat) (x0 y0 x1 y1 : Int) (w' : World) : Prop :=
  w'.cell? ⟨i, 0, none⟩ = some (.int .i64 x0) ∧ w'.cell? ⟨i, 1, none⟩ = some (.int .i64 y0) ∧ w'.cell? ⟨i, 2, none⟩ = some (.int .i64 x1) ∧ w'.cell? ⟨i, 3, none⟩ = some (.int .i64 y1)
theorem OneS.below {i : Nat} {x0 y0 x1 y1 : Int} {w1 w2 : World} (h : OneS i x0 y0 x1 y1 w1) (hb : Below w1.heap.size w1 w2) : OneS i x0 y0 x1 y1 w2 := by
  obtain ⟨h1, h2, h3, h4⟩ := h
  exact ⟨bkeep hb h1, bkeep hb h2, bkeep hb h3, bkeep hb h4⟩
theorem OneS.grown {i p : Nat} {x0 y0 x1 y1 : Int} {w1 w2 : World} (h : OneS i x0 y0 x1 y1 w1) (hg : w1.grownBy w2 (some p)) (hne : ¬ i = p) : OneS i x0 y0 x1 y1 w2 := by
  obtain ⟨h1, h2, h3, h4⟩ := h
  exact ⟨hg.cell h1 (by simpa using hne), hg.cell h2 (by simpa using hne), hg.cell h3 (by simpa using hne), hg.cell h4 (by simpa using hne)⟩
/-- an outset within the bounds -/
theorem outR_in {a b c d l t r u : Int} (h1 : -1048576 ≤ a - l ∧ a < c ∧ c + r ≤ 1048576 ∧ -1048576 ≤ b - t ∧ b < d ∧ d + u ≤ 1048576) (h2 : (0 ≤ l ∧ l ≤ 1048576) ∧ (0 ≤ t ∧ t ≤ 1048576) ∧ (0 ≤ r ∧ r ≤ 1048576) ∧ (0 ≤ u ∧ u ≤ 1048576)) :
    outR a b c d l t r u = ⟨a - l, b - t, c + r, d + u⟩ := by
  unfold outR
  rw [if_pos]
  refine ⟨?_, h2.1, h2.2.1, h2.2.2.1, h2.2.2.2, validB_t.2 (by omega)⟩
  rw [fullB, validB_t.2 (by omega), emptyB_f.2 (by omega)]
  rfl
theorem out_is' {a b c d l t r u x0 y0 x1 y1 : Int} (h : Rc.mk x0 y0 x1 y1 = outR a b c d l t r u) (w : World) : Calls Try.prog 10 #[.agg #[.int .i64 a, .int .i64 b, .int .i64 c, .int .i64 d], .int .i64 l, .int .i64 t, .int .i64 r, .int .i64 u] w
    fun e w' => e = .returned (.agg #[.int .i64 x0, .int .i64 y0, .int .i64 x1, .int .i64 y1]) ∧ Below w.heap.size w w' := out_is h.symm w
set_option maxRecDepth 100000 in
set_option maxHeartbeats 16000000 in
theorem outset_walk (xs : List Int) (a0 : Option Addr) (cap : Nat) (w : World) (hs : SliceIs w a0 xs) (hf : Fits xs) (hl : xs.length ≤ 9223372036854775807) :
    Calls Try.prog 3 #[.slice a0 xs.length cap] w (TestPost true w) := by
  have hs' := Lib.hid hs
  have hf' := Lib.hid hf
  have hl' := Lib.hid hl
  clear hs hf hl
  go_enter Try.func3, Try.ntmps3
  go_wp2_with fail
  refine (new_any a0 cap xs _ hs'.out hf'.out hl'.out).mono ?_; rintro e w1 ⟨rfl, hT⟩
  replace hT := Lib.hid hT
  go_wp2_with fail
  refine (within_any w w.heap.size a0 cap xs _ _ _ _ hT.out (by omega) (by omega) (by omega) (by omega)).mono ?_; rintro e w2 ⟨X0, Y0, X1, Y1, k1, rfl, ⟨ha0, ha1, ha2⟩, ⟨hb0, hb1, hb2⟩, hT2, hg⟩
  replace hT2 : Hid (TapeSome w w2 w.heap.size a0 cap xs) := Lib.hid ⟨k1, hT2⟩
  clear hg hT
  have hq : w.heap.size < w2.heap.size := hT2.out.lt.1
  have nq : ¬ w2.heap.size = w.heap.size := by omega
  go_wp2_with fail
  have hTa := Lib.hid (hT2.out.more (balloc (bref w2) (.cells #[.int .i64 X0, .int .i64 Y0, .int .i64 X1, .int .i64 Y1] 26)))
  have hO : Hid (OneS w2.heap.size X0 Y0 X1 Y1 (w2.alloc (.cells #[.int .i64 X0, .int .i64 Y0, .int .i64 X1, .int .i64 Y1] 26))) := Lib.hid ⟨by go_cell, by go_cell, by go_cell, by go_cell⟩
  refine (next_some w w.heap.size a0 cap xs _ _ hTa.out (by omega) (by omega)).mono ?_; rintro e w3 ⟨l, rfl, ⟨l0, l1⟩, hT3, hg⟩
  replace hT3 := Lib.hid hT3
  replace hO := Lib.hid (hO.out.grown hg nq)
  clear hg hTa
  go_wp2_with fail
  refine (next_some w w.heap.size a0 cap xs _ _ hT3.out (by omega) (by omega)).mono ?_; rintro e w4 ⟨u, rfl, ⟨u0, u1⟩, hT4, hg⟩
  replace hT4 := Lib.hid hT4
  replace hO := Lib.hid (hO.out.grown hg nq)
  clear hg hT3
  go_wp2_with fail
  refine (next_some w w.heap.size a0 cap xs _ _ hT4.out (by omega) (by omega)).mono ?_; rintro e w5 ⟨r, rfl, ⟨r0, r1⟩, hT5, hg⟩
  replace hT5 := Lib.hid hT5
  replace hO := Lib.hid (hO.out.grown hg nq)
  clear hg hT4
  go_wp2_with fail
  refine (next_some w w.heap.size a0 cap xs _ _ hT5.out (by omega) (by omega)).mono ?_; rintro e w6 ⟨d, rfl, ⟨d0, d1⟩, hT6, hg⟩
  replace hT6 := Lib.hid hT6
  replace hO := Lib.hid (hO.out.grown hg nq)
  clear hg hT5
  have HB := Lib.hid (show Below w.heap.size w w6 from by obtain ⟨k, hk⟩ := hT6.out; exact hk.below)
  have hR1 := Lib.hid (outR_in (a := X0) (b := Y0) (c := X1) (d := Y1) (l := l) (t := u) (r := r) (u := d) (by omega) (by omega))
  obtain ⟨b0, eb0⟩ : ∃ b0, X0 - l = b0 := ⟨_, rfl⟩
  obtain ⟨b1, eb1⟩ : ∃ b1, Y0 - u = b1 := ⟨_, rfl⟩
  obtain ⟨b2, eb2⟩ : ∃ b2, X1 + r = b2 := ⟨_, rfl⟩
  obtain ⟨b3, eb3⟩ : ∃ b3, Y1 + d = b3 := ⟨_, rfl⟩
  rw [eb0, eb1, eb2, eb3] at hR1
  have hR2 := Lib.hid (outR_in (a := b0) (b := b1) (c := b2) (d := b3) (l := u) (t := l) (r := d) (u := r) (by omega) (by omega))
  obtain ⟨c0, ec0⟩ : ∃ c0, b0 - u = c0 := ⟨_, rfl⟩
  obtain ⟨c1, ec1⟩ : ∃ c1, b1 - l = c1 := ⟨_, rfl⟩
  obtain ⟨c2, ec2⟩ : ∃ c2, b2 + d = c2 := ⟨_, rfl⟩
  obtain ⟨c3, ec3⟩ : ∃ c3, b3 + r = c3 := ⟨_, rfl⟩
  rw [ec0, ec1, ec2, ec3] at hR2
  have hR3 := Lib.hid (show outR X0 Y0 X1 Y1 (l + u) (l + u) (r + d) (r + d) = ⟨c0, c1, c2, c3⟩ from by
    rw [outR_in (by omega) (by omega), Rc.mk.injEq]; omega)
  have hR4 := Lib.hid (show outR X0 Y0 X1 Y1 0 0 0 0 = ⟨X0, Y0, X1, Y1⟩ from by
    rw [outR_in (by omega) (by omega), Rc.mk.injEq]; omega)
  have hIn := Lib.hid (show insideB X0 Y0 X1 Y1 b0 b1 b2 b3 = true from by
    rw [insideB_t]; exact ⟨validB_t.2 (by omega), validB_t.2 (by omega), by omega⟩)
  obtain ⟨A, eA⟩ : ∃ A, areaN b0 b1 b2 b3 = A := ⟨_, rfl⟩
  have hA : (X1 - X0 + l + r) * (Y1 - Y0 + u + d) = A := by
    rw [← eA]
    unfold areaN
    rw [if_pos (validB_t.2 (by omega)), show b2 - b0 = X1 - X0 + l + r by omega, show b3 - b1 = Y1 - Y0 + u + d by omega]
  have hAb := area_bd b0 b1 b2 b3
  rw [eA] at hAb
  have eA' := Lib.hid eA
  have hA' := Lib.hid hA
  clear eA hA eb0 eb1 eb2 eb3 ec0 ec1 ec2 ec3
  obtain ⟨q1, q2, q3, q4⟩ := hO.out
  go_wp2_with fail
  refine (out_is hR1.out _).mono ?_; rintro e w7 ⟨rfl, hb⟩
  replace hO := Lib.hid (hO.out.below hb)
  have HB7 := Lib.hid (bthen HB.out hb)
  clear hb q1 q2 q3 q4
  go_wp2_with fail
  refine (out_is hR2.out _).mono ?_; rintro e w8 ⟨rfl, hb⟩
  go_upto_region 6 with fail
  have hO9 := Lib.hid ((hO.out.below (bthen (balloc (bref w7) _) hb)).below (balloc (bref w8) (.cells #[.int .i64 c0, .int .i64 c1, .int .i64 c2, .int .i64 c3] 26)))
  have hP9 := Lib.hid (OneS.below (OneS.below (show OneS w7.heap.size b0 b1 b2 b3 (w7.alloc (.cells #[.int .i64 b0, .int .i64 b1, .int .i64 b2, .int .i64 b3] 26)) from ⟨by go_cell, by go_cell, by go_cell, by go_cell⟩) hb) (balloc (bref w8) (.cells #[.int .i64 c0, .int .i64 c1, .int .i64 c2, .int .i64 c3] 26)))
  have hQ9 := Lib.hid (show OneS w8.heap.size c0 c1 c2 c3 (w8.alloc (.cells #[.int .i64 c0, .int .i64 c1, .int .i64 c2, .int .i64 c3] 26)) from ⟨by go_cell, by go_cell, by go_cell, by go_cell⟩)
  have HB9 := Lib.hid (balloc (bthen (balloc HB7.out _) hb) (.cells #[.int .i64 c0, .int .i64 c1, .int .i64 c2, .int .i64 c3] 26))
  obtain ⟨w9, e9⟩ : ∃ w9, w9 = w8.alloc (.cells #[.int .i64 c0, .int .i64 c1, .int .i64 c2, .int .i64 c3] 26) := ⟨_, rfl⟩
  rw [← e9] at hO9 hP9 hQ9 HB9 ⊢
  clear e9 hb hO HB7 HB
  have hS : OutS w w2.heap.size w7.heap.size w8.heap.size X0 Y0 X1 Y1 b0 b1 b2 b3 c0 c1 c2 c3 w9.drew := by
    obtain ⟨g1, g2, g3, g4⟩ := hO9.out
    obtain ⟨g5, g6, g7, g8⟩ := hP9.out
    obtain ⟨g9, g10, g11, g12⟩ := hQ9.out
    exact outS_keep (bref w9).drew ⟨HB9, g1, g2, g3, g4, g5, g6, g7, g8, g9, g10, g11, g12⟩
  clear hO9 hP9 hQ9 HB9 hT6 hs' hf' hl'
  have s1 : IntKind.i64.wrap (X1 - X0) = X1 - X0 := IntWalk.i64_in _ (by omega)
  have s2 : IntKind.i64.wrap (X1 - X0 + l) = X1 - X0 + l := IntWalk.i64_in _ (by omega)
  have s3 : IntKind.i64.wrap (X1 - X0 + l + r) = X1 - X0 + l + r := IntWalk.i64_in _ (by omega)
  have s4 : IntKind.i64.wrap (Y1 - Y0) = Y1 - Y0 := IntWalk.i64_in _ (by omega)
  have s5 : IntKind.i64.wrap (Y1 - Y0 + u) = Y1 - Y0 + u := IntWalk.i64_in _ (by omega)
  have s6 : IntKind.i64.wrap (Y1 - Y0 + u + d) = Y1 - Y0 + u + d := IntWalk.i64_in _ (by omega)
  have s7 : IntKind.i64.wrap ((X1 - X0 + l + r) * (Y1 - Y0 + u + d)) = A := by rw [hA'.out]; exact IntWalk.i64_in _ (by omega)
  have s8 : IntKind.i64.wrap (l + u) = l + u := IntWalk.i64_in _ (by omega)
  have s9 : IntKind.i64.wrap (r + d) = r + d := IntWalk.i64_in _ (by omega)
  go_region_held3 (fun w' => OutS w w2.heap.size w7.heap.size w8.heap.size X0 Y0 X1 Y1 b0 b1 b2 b3 c0 c1 c2 c3 w') ((first | exact hS | exact outS_keep hb ‹_›))
    (first
      | (go_at_call 11; refine (inside_is hIn.out _).mono ?_; rintro e wn ⟨rfl, hb⟩)
      | (go_at_call 12; refine (area_is eA'.out _).mono ?_; rintro e wn ⟨rfl, hb⟩)
      | (go_at_call 10; (with_reducible refine (out_is hR3.out _).mono ?_); rintro e wn ⟨rfl, hb⟩)
      | (go_at_call 10; (with_reducible refine (out_is hR4.out _).mono ?_); rintro e wn ⟨rfl, hb⟩)
      | (go_at_call 13; refine (sane_any _).mono ?_; rintro e wn ⟨rfl, hb⟩))
  all_goals
    go_wp2_with fail
    go_ret
    exact ⟨rfl, (‹OutS w w2.heap.size w7.heap.size w8.heap.size X0 Y0 X1 Y1 b0 b1 b2 b3 c0 c1 c2 c3 wn›).1.out⟩

namespace rectOutset
theorem own : ownKnob Try.prog.godebug = none := by kernel_rfl
theorem laid : laidOutB Try.prog = true := by kernel_rfl
theorem params_ok : ∀ t ∈ Try.f3.params.toList, Try.prog.readableRec t = true ∧ t < Try.prog.types.size := by
  rw [Try.params3]
  intro t ht
  simp at ht
  subst ht
  exact ⟨by kernel_rfl, of_decide_eq_true (by kernel_rfl)⟩
set_option maxRecDepth 100000 in
theorem lifted (os : Os) (started : os.Started) (H : Type) (enc : TypeId × Value → H) :
    ReturnsInHanded {} Try.checked os 3 .any (Rows.rectOutsetSpec.pre6 enc Try.prog Try.f3 Rows.rectOutsetRow.domain false) (Rows.rectOutsetSpec.post enc Try.prog Try.f3 false true false false) := by
  refine returnsInHanded_of_change (C := Try.checked) own started (by kernel_rfl) Try.func3
    (ChangeSpec.witness6 (enc := enc) (C := Try.checked) false ⟨#[], #[.slice none 0 0], []⟩ 8 (by kernel_rfl) (by kernel_rfl) (by kernel_rfl) (by kernel_rfl)) ?_
  intro W base args ds gs before hval0 hW hcnd _
  have hval : ∀ (j : Nat) t v, Try.f3.params[j]? = some t → args[j]? = some v → Value.okWide Try.prog W .any base t v := hval0
  have hW' := hW
  obtain ⟨p, q, hA0, hV, rfl, hfz, hnd⟩ := hW
  have hA : DataW.TrodAll enc Try.prog W 0 (fun _ => true) true Try.f3.params.toList args.toList ds p := hA0
  rw [Try.params3] at hA hval
  obtain ⟨v0, vs0, d0, ds0, p0, q0, hargs, rfl, rfl, h0, r0⟩ := trodAll_cons hA
  obtain ⟨rfl, rfl, rfl⟩ := trodAll_nil r0
  obtain rfl : args = #[v0] := by cases args; simp_all
  obtain ⟨rfl, rfl⟩ := trodVars_none hV
  obtain ⟨a0, len, cap, rfl⟩ := okWide_slice Try.underlying22 (hval 0 22 v0 rfl rfl)
  obtain ⟨xs, rfl, hs, hf, hl⟩ := open_list h0
  clear hA0 hval0
  have fin : Calls Try.prog 3 #[.slice a0 xs.length cap] W (TestPost true W) := outset_walk xs a0 cap W hs hf hl
  refine fin.mono fun e W' ⟨he, hb⟩ => ?_
  subst he
  exact ⟨_, rfl, law_post laid rfl Try.underlying4 params_ok rfl hW' rfl hb⟩

theorem over : Rows.rectOutsetRow.holds Try.pinned (OpenSpec.ofChange Rows.rectOutsetSpec) :=
  OpenClaim.holds_of_wide 3 Try.f3 rfl rfl rfl rfl rfl rfl rfl ⟨rfl, rfl, rfl, rfl, rfl⟩ rfl rfl rfl rfl rfl (by kernel_rfl) Try.func3 (by kernel_rfl)
    (of_decide_eq_true (by kernel_rfl)) (by unfold Func.isWrapper; first | (rw [if_pos (by decide +kernel)]; kernel_rfl) | (rw [if_neg (by decide +kernel)]; exact ⟨rfl, rfl⟩))
    (fun os started H enc _ => lifted os started H enc)

/-- the statement -/
theorem proved : Rows.RectOutsetSaid := over
#print axioms proved
end rectOutset
end Go.Proofs.Ytbdedlmpcdelfaa
