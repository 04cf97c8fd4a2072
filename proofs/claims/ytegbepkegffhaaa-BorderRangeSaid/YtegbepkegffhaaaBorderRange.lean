/- BorderRange: the least and the greatest coordinates of mapped ranges are those of the document, for every list of ints and all ints. No condition. -/
import Derived.Test.YtegbepkegffhaaaBEdge
import Derived.Test.YtegbepkegffhaaaBRRangeAny
import Derived.Test.YtegbepkegffhaaaTapePick
import Derived.Test.YtegbepkegffhaaaList
import Derived.Test.YtegbepkegffhaaaLaw
namespace Go.Proofs.Ytegbepkegffhaaa
open Go.ChangeShapes Go.WideShapes Go.ChangeAt Go.RowKit
set_option linter.unusedVariables false
set_option linter.unusedSimpArgs false

/-- a tape at some place -/
def TapeAt (W w : World) (p : Nat) (a : Option Addr) (cap : Nat) (xs : List Int) : Prop := ∃ k, TapeIn W w p a cap xs k
theorem TapeAt.more {W w w' : World} {p : Nat} {a : Option Addr} {cap : Nat} {xs : List Int} (h : TapeAt W w p a cap xs) (hb : Below w.heap.size w w') : TapeAt W w' p a cap xs := by
  obtain ⟨k, hk⟩ := h; exact ⟨k, hk.more hb⟩
theorem TapeAt.lt {W w : World} {p : Nat} {a : Option Addr} {cap : Nat} {xs : List Int} (h : TapeAt W w p a cap xs) : p < w.heap.size := by
  obtain ⟨k, hk⟩ := h; exact hk.lt
theorem TapeAt.below {W w : World} {p : Nat} {a : Option Addr} {cap : Nat} {xs : List Int} (h : TapeAt W w p a cap xs) : Below W.heap.size W w := by
  obtain ⟨k, hk⟩ := h; exact hk.below
theorem next_at (W : World) (p : Nat) (a : Option Addr) (cap : Nat) (xs : List Int) (n : Int) (w : World) (h : TapeAt W w p a cap xs) (h0 : 1 ≤ n) (h1 : n ≤ 9223372036854775807) :
    Calls Try.prog 15 #[.pointer (some ⟨p, 0, none⟩), .int .i64 n] w fun e w' => ∃ m : Int, e = .returned (.int .i64 m) ∧ (0 ≤ m ∧ m < n) ∧ TapeAt W w' p a cap xs := by
  obtain ⟨k, hk⟩ := h
  exact (next_any W p a cap xs k n w hk h0 h1).mono fun e w' ⟨m, k', he, hm, hT, hg⟩ => ⟨m, he, hm, k', hT⟩
theorem five_cells (w : World) (y0 y1 y2 y3 y4 : Int) (t : TypeId) : ∀ j, j < [y0, y1, y2, y3, y4].length → (w.alloc (.cells #[.int .i64 y0, .int .i64 y1, .int .i64 y2, .int .i64 y3, .int .i64 y4] t)).cell? ⟨w.heap.size, j, none⟩ = some (.int .i64 ([y0, y1, y2, y3, y4].getD j 0)) := by
  intro j hj
  simp at hj
  rcases (show j = 0 ∨ j = 1 ∨ j = 2 ∨ j = 3 ∨ j = 4 by omega) with rfl | rfl | rfl | rfl | rfl <;> simp [World.cell?_alloc_new]
theorem pick_five (W : World) (p : Nat) (a : Option Addr) (cap : Nat) (xs : List Int) (x : Int) (c : Nat) (w : World) (h : TapeAt W w p a cap xs) (t : TypeId) (x0 : 0 ≤ x) (x1 : x < 12) :
    Calls Try.prog 16 #[.pointer (some ⟨p, 0, none⟩), .slice (some ⟨w.heap.size, 0, none⟩) 5 c] (w.alloc (.cells #[.int .i64 x, .int .i64 0, .int .i64 (-1), .int .i64 700, .int .i64 100000] t))
      fun e w' => ∃ m : Int, e = .returned (.int .i64 m) ∧ (-1 ≤ m ∧ m ≤ 100000) ∧ TapeAt W w' p a cap xs := by
  have hlt := h.lt
  obtain ⟨k, hk⟩ := h
  have := pick_any W p a cap xs k w.heap.size c [x, 0, -1, 700, 100000] _ (hk.more (balloc (bref w) (.cells #[.int .i64 x, .int .i64 0, .int .i64 (-1), .int .i64 700, .int .i64 100000] t))) (by omega) (by simp) (by simp) (five_cells w x 0 (-1) 700 100000 t)
  refine this.mono fun e w' ⟨m, k', he, hm, hT, hg⟩ => ⟨m, he, ?_, k', hT⟩
  simp at hm
  omega
set_option maxHeartbeats 1000000 in
set_option maxRecDepth 100000 in
theorem range_walk (xs : List Int) (a0 : Option Addr) (cap : Nat) (f t n q : Int) (w : World) (hs : SliceIs w a0 xs) (hf : Fits xs) (hl : xs.length ≤ 9223372036854775807) (q0 : -9223372036854775808 ≤ q) (q1 : q ≤ 9223372036854775807) :
    Calls Try.prog 5 #[.slice a0 xs.length cap, .int .i64 f, .int .i64 t, .int .i64 n, .int .i64 q] w (TestPost true w) := by
  have hs' := Lib.hid hs
  have hf' := Lib.hid hf
  have hl' := Lib.hid hl
  clear hs hf hl
  go_enter Try.func5, Try.ntmps5
  go_wp2_with fail
  refine (new_any a0 cap xs _ hs'.out hf'.out hl'.out).mono ?_; rintro e w1 ⟨rfl, hT⟩
  replace hT : Hid (TapeAt w w1 w.heap.size a0 cap xs) := Lib.hid ⟨0, hT⟩
  go_wp2_with fail
  go_loopw [12] (fun i wr => ∃ k : Nat, k ≤ 6 ∧ i = .int .i64 k ∧ Hid (TapeAt w wr w.heap.size a0 cap xs)) (fun i _ => 6 - (intOf i).toNat)
  case atStart => exact ⟨0, by omega, rfl, hT⟩
  case round =>
    clear hT
    obtain ⟨k, hk, rfl, hT⟩ := hrel
    by_cases hlt : k < 6
    · have hkI : (k : Int) < 6 := by omega
      go_wp2_with fail
      refine (next_at w w.heap.size a0 cap xs _ _ hT.out (by omega) (by omega)).mono ?_; rintro e w2 ⟨A, rfl, ⟨aa0, aa1⟩, hT2⟩
      replace hT2 := Lib.hid hT2
      clear hT
      go_wp2_with fail
      refine (next_at w w.heap.size a0 cap xs _ _ hT2.out (by omega) (by omega)).mono ?_; rintro e w3 ⟨M, rfl, ⟨mm0, mm1⟩, hT3⟩
      replace hT3 := Lib.hid hT3
      clear hT2
      go_wp2_with fail
      refine (next_at w w.heap.size a0 cap xs _ _ hT3.out (by omega) (by omega)).mono ?_; rintro e w4 ⟨P, rfl, ⟨pp0, pp1⟩, hT4⟩
      replace hT4 := Lib.hid hT4
      clear hT3
      go_wp2_with fail
      refine (next_at w w.heap.size a0 cap xs _ _ hT4.out (by omega) (by omega)).mono ?_; rintro e w5 ⟨X, rfl, ⟨xx0, xx1⟩, hT5⟩
      replace hT5 := Lib.hid hT5
      clear hT4
      go_wp2_with fail
      refine (pick_five w w.heap.size a0 cap xs X _ w5 hT5.out _ xx0 xx1).mono ?_; rintro e w6 ⟨Y, rfl, ⟨yy0, yy1⟩, hT6⟩
      replace hT6 := Lib.hid hT6
      clear hT5
      by_cases h5 : k = 5
      · subst h5
        go_wp2_with fail
        refine (mod_any q 4 _ (by omega) (by omega) q0 q1).mono ?_; rintro e w1 ⟨rfl, rfl⟩
        go_wp2_with fail
        refine (range_any _ _ _ _ _).mono ?_; rintro e w7 ⟨lo, hi, ok, rfl, HR, rfl⟩
        have HR' := Lib.hid HR
        clear HR
        go_wp2_with fail
        refine (rrange_any _ _ _ _ _).mono ?_; rintro e w7 ⟨lo', hi', ok', rfl, HQ, rfl⟩
        obtain ⟨rfl, rfl, rfl⟩ := range_one HR'.out HQ
        clear HQ HR'
        go_wp2_with fail
        go_roundw
        case rel => exact ⟨6, by omega, by go_num, hT6⟩
        case measure => simp [intOf] <;> omega
      · have h5' : ¬ (k : Int) = 5 := by omega
        go_wp2_with fail
        refine (range_any _ _ _ _ _).mono ?_; rintro e w7 ⟨lo, hi, ok, rfl, HR, rfl⟩
        have HR' := Lib.hid HR
        clear HR
        go_wp2_with fail
        refine (rrange_any _ _ _ _ _).mono ?_; rintro e w7 ⟨lo', hi', ok', rfl, HQ, rfl⟩
        obtain ⟨rfl, rfl, rfl⟩ := range_one HR'.out HQ
        clear HQ HR'
        go_wp2_with fail
        go_roundw
        case rel => exact ⟨k + 1, by omega, by go_num, hT6⟩
        case measure => simp [intOf] <;> omega
    · obtain rfl : k = 6 := by omega
      have HB := Lib.hid hT.out.below
      clear hT
      go_wp2_with fail
      refine (sane_any _).mono ?_; rintro e w2 ⟨rfl, hb⟩
      go_wp2_with fail
      go_ret
      exact ⟨rfl, HB.out.trans (hb.mono HB.out.size)⟩
namespace borderRange
theorem own : ownKnob Try.prog.godebug = none := by kernel_rfl
theorem laid : laidOutB Try.prog = true := by kernel_rfl
theorem params_ok : ∀ t ∈ Try.f5.params.toList, Try.prog.readableRec t = true ∧ t < Try.prog.types.size := by
  rw [Try.params5]
  intro t ht
  simp at ht
  rcases ht with rfl | rfl | rfl | rfl | rfl <;> exact ⟨by kernel_rfl, of_decide_eq_true (by kernel_rfl)⟩
set_option maxRecDepth 100000 in
theorem lifted (os : Os) (started : os.Started) (H : Type) (enc : TypeId × Value → H) :
    ReturnsInHanded {} Try.checked os 5 .any (Rows.borderRangeSpec.pre6 enc Try.prog Try.f5 Rows.borderRangeRow.domain false) (Rows.borderRangeSpec.post enc Try.prog Try.f5 false true false false) := by
  refine returnsInHanded_of_change (C := Try.checked) own started (by kernel_rfl) Try.func5
    (ChangeSpec.witness6 (enc := enc) (C := Try.checked) false ⟨#[], #[.slice none 0 0, .int .i64 0, .int .i64 0, .int .i64 0, .int .i64 0], []⟩ 8 (by kernel_rfl) (by kernel_rfl) (by kernel_rfl) (by kernel_rfl)) ?_
  intro W base args ds gs before hval0 hW hcnd _
  have hval : ∀ (j : Nat) t v, Try.f5.params[j]? = some t → args[j]? = some v → Value.okWide Try.prog W .any base t v := hval0
  have hW' := hW
  obtain ⟨p, q, hA0, hV, rfl, hfz, hnd⟩ := hW
  have hA : DataW.TrodAll enc Try.prog W 0 (fun _ => true) true Try.f5.params.toList args.toList ds p := hA0
  rw [Try.params5] at hA hval
  obtain ⟨v0, vs0, d0, ds0, p0, q0, hargs, rfl, rfl, h0, r0⟩ := trodAll_cons hA
  obtain ⟨v1, vs1, d1, ds1, p1, q1, rfl, rfl, rfl, h1, r1⟩ := trodAll_cons r0
  obtain ⟨v2, vs2, d2, ds2, p2, q2, rfl, rfl, rfl, h2, r2⟩ := trodAll_cons r1
  obtain ⟨v3, vs3, d3, ds3, p3, q3, rfl, rfl, rfl, h3, r3⟩ := trodAll_cons r2
  obtain ⟨v4, vs4, d4, ds4, p4, q4, rfl, rfl, rfl, h4, r4⟩ := trodAll_cons r3
  obtain ⟨rfl, rfl, rfl⟩ := trodAll_nil r4
  obtain rfl : args = #[v0, v1, v2, v3, v4] := by cases args; simp_all
  obtain ⟨rfl, rfl⟩ := trodVars_none hV
  obtain ⟨a0, len, cap, rfl⟩ := okWide_slice Try.underlying29 (hval 0 29 v0 rfl rfl)
  obtain ⟨xs, rfl, hs, hf, hl⟩ := open_list h0
  obtain ⟨i1, rfl, rfl, rfl, w1⟩ := open_int Try.underlying3 (hval 1 3 v1 rfl rfl) h1
  obtain ⟨i2, rfl, rfl, rfl, w2⟩ := open_int Try.underlying3 (hval 2 3 v2 rfl rfl) h2
  obtain ⟨i3, rfl, rfl, rfl, w3⟩ := open_int Try.underlying3 (hval 3 3 v3 rfl rfl) h3
  obtain ⟨i4, rfl, rfl, rfl, w4⟩ := open_int Try.underlying3 (hval 4 3 v4 rfl rfl) h4
  clear hA0 hval0
  have fin : Calls Try.prog 5 #[.slice a0 xs.length cap, .int .i64 i1, .int .i64 i2, .int .i64 i3, .int .i64 i4] W (TestPost true W) := range_walk xs a0 cap i1 i2 i3 i4 W hs hf hl (wf_bd w4).1 (wf_bd w4).2
  refine fin.mono fun e W' ⟨he, hb⟩ => ?_
  subst he
  exact ⟨_, rfl, law_post laid rfl Try.underlying4 params_ok rfl hW' rfl hb⟩

theorem over : Rows.borderRangeRow.holds Try.pinned (OpenSpec.ofChange Rows.borderRangeSpec) :=
  OpenClaim.holds_of_wide 5 Try.f5 rfl rfl rfl rfl rfl rfl rfl ⟨rfl, rfl, rfl, rfl, rfl⟩ rfl rfl rfl rfl rfl (by kernel_rfl) Try.func5 (by kernel_rfl)
    (of_decide_eq_true (by kernel_rfl)) (by unfold Func.isWrapper; first | (rw [if_pos (by decide +kernel)]; kernel_rfl) | (rw [if_neg (by decide +kernel)]; exact ⟨rfl, rfl⟩))
    (fun os started H enc _ => lifted os started H enc)

/-- the statement -/
theorem proved : Rows.BorderRangeSaid := over
#print axioms proved
end borderRange
end Go.Proofs.Ytegbepkegffhaaa
