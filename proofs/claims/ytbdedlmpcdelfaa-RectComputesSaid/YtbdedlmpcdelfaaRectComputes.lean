/- The statement RectComputes: for every list of ints, every two rectangles and every three ints the law function returns true and leaves its arguments as they were. No condition. -/
import Derived.Test.YtbdedlmpcdelfaaList
import Derived.Test.YtbdedlmpcdelfaaRAgree
import Derived.Test.YtbdedlmpcdelfaaRect
namespace Go.Proofs.Ytbdedlmpcdelfaa
open Go.ChangeShapes Go.WideShapes Go.ChangeAt Go.RowKit
set_option linter.unusedVariables false
set_option linter.unusedSimpArgs false

theorem three_cells (w : World) (x y z : Int) (t : TypeId) : ∀ j, j < [x, y, z].length → (w.alloc (.cells #[.int .i64 x, .int .i64 y, .int .i64 z] t)).cell? ⟨w.heap.size, j, none⟩ = some (.int .i64 ([x, y, z].getD j 0)) := by
  intro j hj
  have : j = 0 ∨ j = 1 ∨ j = 2 := by simp at hj; omega
  rcases this with rfl | rfl | rfl <;> simp [World.cell?_alloc_new]
theorem pick_three (W : World) (p : Nat) (a : Option Addr) (cap : Nat) (xs : List Int) (x y z : Int) (c : Nat) (w : World) (h : TapeSome W w p a cap xs) (t : TypeId) :
    Calls Try.prog 16 #[.pointer (some ⟨p, 0, none⟩), .slice (some ⟨w.heap.size, 0, none⟩) 3 c] (w.alloc (.cells #[.int .i64 x, .int .i64 y, .int .i64 z] t)) fun e w' => ∃ m : Int, e = .returned (.int .i64 m) ∧ (m = x ∨ m = y ∨ m = z) ∧ TapeSome W w' p a cap xs ∧ w.grownBy w' (some p) := by
  have hlt := h.lt
  have := pick_some W p a cap xs w.heap.size c [x, y, z] (w.alloc (.cells #[.int .i64 x, .int .i64 y, .int .i64 z] t)) (h.more (balloc (bref w) _)) (by omega) (by simp) (by simp) (three_cells w x y z t)
  exact this.mono fun e w' ⟨m, he, hm, hT, hg⟩ => ⟨m, he, by simpa using hm, hT, gthen (galloc (gref w _) _) hg⟩
set_option maxRecDepth 100000 in
set_option maxHeartbeats 4000000 in
theorem computes_walk (xs : List Int) (a0 : Option Addr) (cap : Nat) (a b c d a' b' c' d' x y n : Int) (w : World) (hs : SliceIs w a0 xs) (hf : Fits xs) (hl : xs.length ≤ 9223372036854775807) :
    Calls Try.prog 4 #[.slice a0 xs.length cap, .agg #[.int .i64 a, .int .i64 b, .int .i64 c, .int .i64 d], .agg #[.int .i64 a', .int .i64 b', .int .i64 c', .int .i64 d'], .int .i64 x, .int .i64 y, .int .i64 n] w (TestPost true w) := by
  have hs' := Lib.hid (is_below hs (balloc (balloc (bref w) (.cells #[.int .i64 a, .int .i64 b, .int .i64 c, .int .i64 d] 26)) (.cells #[.int .i64 a', .int .i64 b', .int .i64 c', .int .i64 d'] 26)))
  have hf' := Lib.hid hf
  have hl' := Lib.hid hl
  clear hs hf hl
  go_enter Try.func4, Try.ntmps4
  go_wp2_with fail
  refine (new_any a0 cap xs _ hs'.out hf'.out hl'.out).mono ?_; rintro e w3 ⟨rfl, hT⟩
  obtain ⟨w2, e2⟩ : ∃ w2, w2 = (w.alloc (.cells #[.int .i64 a, .int .i64 b, .int .i64 c, .int .i64 d] 26)).alloc (.cells #[.int .i64 a', .int .i64 b', .int .i64 c', .int .i64 d'] 26) := ⟨_, rfl⟩
  have hB2 : Below w.heap.size w w2 := by rw [e2]; exact balloc (balloc (bref w) _) _
  have hS2 : InS w w.heap.size (w.heap.size + 1) a b c d a' b' c' d' w2 := by
    rw [e2]; exact inS_start0 w a b c d a' b' c' d' 26 26
  rw [← e2] at hT ⊢
  replace hT : Hid (TapeSome w2 w3 w2.heap.size a0 cap xs) := Lib.hid ⟨0, hT⟩
  replace hS2 := Lib.hid hS2
  replace hB2 := Lib.hid hB2
  clear e2 hs'
  go_wp2_with fail
  go_loopw [14] (fun i wr => ∃ k : Nat, k ≤ 6 ∧ i = .int .i64 k ∧ Hid (TapeSome w2 wr w2.heap.size a0 cap xs)) (fun i _ => 6 - (intOf i).toNat)
  case atStart => exact ⟨0, by omega, rfl, hT⟩
  case round =>
    clear hT
    obtain ⟨k, hk, rfl, hT⟩ := hrel
    by_cases hlt : k < 6
    · have hkI : (k : Int) < 6 := by omega
      go_wp2_with fail
      refine (rect_some w2 w2.heap.size a0 cap xs _ hT.out).mono ?_; rintro e w4 ⟨X0, Y0, X1, Y1, rfl, hbd, hT4, hg⟩; replace hT4 := Lib.hid hT4; clear hg hT hbd
      go_wp2_with fail
      refine (rect_some w2 w2.heap.size a0 cap xs _ hT4.out).mono ?_; rintro e w5 ⟨U0, V0, U1, V1, rfl, hbd, hT5, hg⟩; replace hT5 := Lib.hid hT5; clear hg hT4 hbd
      go_wp2_with fail
      refine (next_some w2 w2.heap.size a0 cap xs _ _ hT5.out (by omega) (by omega)).mono ?_; rintro e w6 ⟨m1, rfl, ⟨m10, m11⟩, hT6, hg⟩; replace hT6 := Lib.hid hT6; clear hg hT5
      go_wp2_with fail
      refine (next_some w2 w2.heap.size a0 cap xs _ _ hT6.out (by omega) (by omega)).mono ?_; rintro e w7 ⟨m2, rfl, ⟨m20, m21⟩, hT7, hg⟩; replace hT7 := Lib.hid hT7; clear hg hT6
      go_wp2_with fail
      refine (next_some w2 w2.heap.size a0 cap xs _ _ hT7.out (by omega) (by omega)).mono ?_; rintro e w8 ⟨m3, rfl, ⟨m30, m31⟩, hT8, hg⟩; replace hT8 := Lib.hid hT8; clear hg hT7
      go_wp2_with fail
      refine (pick_three w2 w2.heap.size a0 cap xs _ _ _ _ _ hT8.out _).mono ?_; rintro e w9 ⟨m4, rfl, hm4, hT9, hg⟩; replace hT9 := Lib.hid hT9; clear hg hT8 hm4
      go_wp2_with fail
      refine (pick_three w2 w2.heap.size a0 cap xs _ _ _ _ _ hT9.out _).mono ?_; rintro e w10 ⟨m5, rfl, hm5, hT10, hg⟩; replace hT10 := Lib.hid hT10; clear hg hT9 hm5
      go_wp2_with fail
      refine (next_some w2 w2.heap.size a0 cap xs _ _ hT10.out (by omega) (by omega)).mono ?_; rintro e w11 ⟨m6, rfl, ⟨m60, m61⟩, hT11, hg⟩; replace hT11 := Lib.hid hT11; clear hg hT10
      go_wp2_with fail
      refine (agrees_any _ _ _ _ _ _ _ _ _ _ _ _ _ _ _).mono ?_; rintro e w12 ⟨rfl, hb⟩
      have hT12 := Lib.hid (hT11.out.more hb)
      clear hb hT11
      go_wp2_with fail
      go_roundw
      case rel => exact ⟨k + 1, by omega, by go_num, hT12⟩
      case measure => simp [intOf]; omega
    · obtain rfl : k = 6 := by omega
      have hBr : Below w.heap.size w wr := by obtain ⟨k, hk⟩ := hT.out; exact bthen hB2.out hk.below
      have hS := Lib.hid (show InS w w.heap.size (w.heap.size + 1) a b c d a' b' c' d' wr from by obtain ⟨k, hk⟩ := hT.out; exact inS_keep hk.below hS2.out)
      replace hBr := Lib.hid hBr
      obtain ⟨-, k1, k2, k3, k4, k5, k6, k7, k8⟩ := hS.out
      go_wp2_with fail
      refine (agrees_any _ _ _ _ _ _ _ _ _ _ _ _ _ _ _).mono ?_; rintro e w12 ⟨rfl, hb⟩
      replace hS := Lib.hid (inS_keep hb hS.out)
      clear hb k1 k2 k3 k4 k5 k6 k7 k8
      obtain ⟨-, k1, k2, k3, k4, k5, k6, k7, k8⟩ := hS.out
      go_wp2_with fail
      refine (agrees_any _ _ _ _ _ _ _ _ _ _ _ _ _ _ _).mono ?_; rintro e w13 ⟨rfl, hb⟩
      replace hS := Lib.hid (inS_keep hb hS.out)
      clear hb k1 k2 k3 k4 k5 k6 k7 k8
      go_wp2_with fail
      refine (sane_any _).mono ?_; rintro e w14 ⟨rfl, hb⟩
      go_wp2_with fail
      go_ret
      exact ⟨rfl, bthen hS.out.1 hb⟩

namespace rectComputes
theorem own : ownKnob Try.prog.godebug = none := by kernel_rfl
theorem laid : laidOutB Try.prog = true := by kernel_rfl
theorem cells26 : Try.prog.cellsOf 26 = 4 := by kernel_rfl
theorem params_ok : ∀ t ∈ Try.f4.params.toList, Try.prog.readableRec t = true ∧ t < Try.prog.types.size := by
  rw [Try.params4]
  intro t ht
  simp at ht
  rcases ht with rfl | rfl | rfl | rfl | rfl | rfl <;> exact ⟨by kernel_rfl, of_decide_eq_true (by kernel_rfl)⟩
set_option maxRecDepth 100000 in
theorem lifted (os : Os) (started : os.Started) (H : Type) (enc : TypeId × Value → H) :
    ReturnsInHanded {} Try.checked os 4 .any (Rows.rectComputesSpec.pre6 enc Try.prog Try.f4 Rows.rectComputesRow.domain false) (Rows.rectComputesSpec.post enc Try.prog Try.f4 false true false false) := by
  refine returnsInHanded_of_change (C := Try.checked) own started (by kernel_rfl) Try.func4
    (ChangeSpec.witness6 (enc := enc) (C := Try.checked) false ⟨#[], #[.slice none 0 0, .agg #[.int .i64 0, .int .i64 0, .int .i64 0, .int .i64 0], .agg #[.int .i64 0, .int .i64 0, .int .i64 0, .int .i64 0], .int .i64 0, .int .i64 0, .int .i64 0], []⟩ 8 (by kernel_rfl) (by kernel_rfl) (by kernel_rfl) (by kernel_rfl)) ?_
  intro W base args ds gs before hval0 hW hcnd _
  have hval : ∀ (j : Nat) t v, Try.f4.params[j]? = some t → args[j]? = some v → Value.okWide Try.prog W .any base t v := hval0
  have hW' := hW
  obtain ⟨p, q, hA0, hV, rfl, hfz, hnd⟩ := hW
  have hA : DataW.TrodAll enc Try.prog W 0 (fun _ => true) true Try.f4.params.toList args.toList ds p := hA0
  rw [Try.params4] at hA hval
  obtain ⟨v0, vs0, d0, ds0, p0, q0, hargs, rfl, rfl, h0, r0⟩ := trodAll_cons hA
  obtain ⟨v1, vs1, d1, ds1, p1, q1, rfl, rfl, rfl, h1, r1⟩ := trodAll_cons r0
  obtain ⟨v2, vs2, d2, ds2, p2, q2, rfl, rfl, rfl, h2, r2⟩ := trodAll_cons r1
  obtain ⟨v3, vs3, d3, ds3, p3, q3, rfl, rfl, rfl, h3, r3⟩ := trodAll_cons r2
  obtain ⟨v4, vs4, d4, ds4, p4, q4, rfl, rfl, rfl, h4, r4⟩ := trodAll_cons r3
  obtain ⟨v5, vs5, d5, ds5, p5, q5, rfl, rfl, rfl, h5, r5⟩ := trodAll_cons r4
  obtain ⟨rfl, rfl, rfl⟩ := trodAll_nil r5
  obtain rfl : args = #[v0, v1, v2, v3, v4, v5] := by cases args; simp_all
  obtain ⟨rfl, rfl⟩ := trodVars_none hV
  obtain ⟨a0, len, cap, rfl⟩ := okWide_slice Try.underlying22 (hval 0 22 v0 rfl rfl)
  obtain ⟨xs, rfl, hs, hf, hl⟩ := open_list h0
  obtain ⟨c0, c1, c2, c3, y0, y1, y2, y3, m, rfl, rfl, rfl, hy0, hy1, hy2, hy3⟩ := Joins.open_agg4 Try.underlying26 (by kernel_rfl) cells26 (hval 1 26 v1 rfl rfl) h1
  obtain ⟨r1a, ez, _, _⟩ := DataW.trod_int Try.underlying3 hy0
  simp only [List.cons.injEq, and_true] at ez
  subst ez
  obtain ⟨r1b, ez, _, _⟩ := DataW.trod_int Try.underlying3 hy1
  simp only [List.cons.injEq, and_true] at ez
  subst ez
  obtain ⟨r1c, ez, _, _⟩ := DataW.trod_int Try.underlying3 hy2
  simp only [List.cons.injEq, and_true] at ez
  subst ez
  obtain ⟨r1d, ez, _, _⟩ := DataW.trod_int Try.underlying3 hy3
  simp only [List.cons.injEq, and_true] at ez
  subst ez
  obtain ⟨c0, c1, c2, c3, y0, y1, y2, y3, m, rfl, rfl, rfl, hy0, hy1, hy2, hy3⟩ := Joins.open_agg4 Try.underlying26 (by kernel_rfl) cells26 (hval 2 26 v2 rfl rfl) h2
  obtain ⟨r2a, ez, _, _⟩ := DataW.trod_int Try.underlying3 hy0
  simp only [List.cons.injEq, and_true] at ez
  subst ez
  obtain ⟨r2b, ez, _, _⟩ := DataW.trod_int Try.underlying3 hy1
  simp only [List.cons.injEq, and_true] at ez
  subst ez
  obtain ⟨r2c, ez, _, _⟩ := DataW.trod_int Try.underlying3 hy2
  simp only [List.cons.injEq, and_true] at ez
  subst ez
  obtain ⟨r2d, ez, _, _⟩ := DataW.trod_int Try.underlying3 hy3
  simp only [List.cons.injEq, and_true] at ez
  subst ez
  obtain ⟨i3, rfl, rfl, rfl, w3⟩ := open_int Try.underlying3 (hval 3 3 v3 rfl rfl) h3
  obtain ⟨i4, rfl, rfl, rfl, w4⟩ := open_int Try.underlying3 (hval 4 3 v4 rfl rfl) h4
  obtain ⟨i5, rfl, rfl, rfl, w5⟩ := open_int Try.underlying3 (hval 5 3 v5 rfl rfl) h5
  clear hA0 hval0
  have fin : Calls Try.prog 4 #[.slice a0 xs.length cap, .agg #[.int .i64 r1a, .int .i64 r1b, .int .i64 r1c, .int .i64 r1d], .agg #[.int .i64 r2a, .int .i64 r2b, .int .i64 r2c, .int .i64 r2d], .int .i64 i3, .int .i64 i4, .int .i64 i5] W (TestPost true W) := computes_walk xs a0 cap r1a r1b r1c r1d r2a r2b r2c r2d i3 i4 i5 W hs hf hl
  refine fin.mono fun e W' ⟨he, hb⟩ => ?_
  subst he
  exact ⟨_, rfl, law_post laid rfl Try.underlying4 params_ok rfl hW' rfl hb⟩

theorem over : Rows.rectComputesRow.holds Try.pinned (OpenSpec.ofChange Rows.rectComputesSpec) :=
  OpenClaim.holds_of_wide 4 Try.f4 rfl rfl rfl rfl rfl rfl rfl ⟨rfl, rfl, rfl, rfl, rfl⟩ rfl rfl rfl rfl rfl (by kernel_rfl) Try.func4 (by kernel_rfl)
    (of_decide_eq_true (by kernel_rfl)) (by unfold Func.isWrapper; first | (rw [if_pos (by decide +kernel)]; kernel_rfl) | (rw [if_neg (by decide +kernel)]; exact ⟨rfl, rfl⟩))
    (fun os started H enc _ => lifted os started H enc)

/-- the statement -/
theorem proved : Rows.RectComputesSaid := over
#print axioms proved
end rectComputes
end Go.Proofs.Ytbdedlmpcdelfaa
