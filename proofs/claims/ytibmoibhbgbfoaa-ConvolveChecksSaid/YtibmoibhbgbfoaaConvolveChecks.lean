/- For all lists and ints the statement ConvolveChecks returns true: the errors of kernels are those of the reference. No condition on them. -/
import Derived.Test.YtibmoibhbgbfoaaCSane
import Derived.Test.YtibmoibhbgbfoaaWeights
import Derived.Test.YtibmoibhbgbfoaaList
import Derived.Deep.DeepMust
namespace Go.Proofs.Ytibmoibhbgbfoaa
open Go.ChangeShapes Go.WideShapes Go.ChangeAt Go.RowKit
set_option linter.unusedVariables false
set_option linter.unusedSimpArgs false

theorem tape_mr {W w w' : World} {p : Nat} {a : Option Addr} {cap : Nat} {xs : List Int} (h : TapeSome W w p a cap xs) (hb : Below w.heap.size w w') : TapeSome W w' p a cap xs := ⟨h.choose, h.choose_spec.more hb⟩
theorem own_is {base : Nat} {w : World} {a : Option Addr} {n c : Nat} {L : List Int} (h : OwnL base w (.slice a n c) L) : SliceIs w a L := by
  obtain ⟨b, cc, e, hs⟩ := h.slice
  cases e
  exact hs
theorem own_row {base : Nat} {w : World} {v : Value} {L : List Int} (h : OwnL base w v L) (hl : 1 ≤ L.length) : ∃ g cap, v = .slice (some ⟨g, 0, none⟩) L.length cap ∧ PixAt base w g cap L := by
  rcases h.2 with ⟨rfl, hn⟩ | ⟨g, cap, cur, rfl, _⟩
  · omega
  · exact ⟨g, cap, rfl, h⟩
set_option maxRecDepth 100000 in
set_option maxHeartbeats 4000000 in
theorem checks_walk (xs : List Int) (a0 : Option Addr) (cap : Nat) (F : List Int) (b1 : Option Addr) (cap1 : Nat) (mx kw kh sh out : Int) (w : World) (hs : SliceIs w a0 xs) (hf : Fits xs) (hl : xs.length ≤ 9223372036854775807) (us : SliceIs w b1 F) (ul : F.length ≤ 9223372036854775807) :
    Calls Try.prog 3 #[.slice a0 xs.length cap, .slice b1 F.length cap1, .int .i64 mx, .int .i64 kw, .int .i64 kh, .int .i64 sh, .int .i64 out] w (TestPost true w) := by
  have hs' := Lib.hid hs
  have hf' := Lib.hid hf
  have hl' := Lib.hid hl
  have HF := Lib.hid us
  obtain ⟨n1, en1⟩ : ∃ n1, F.length = n1 := ⟨_, rfl⟩
  have EF := Lib.hid en1
  rw [en1] at ul ⊢
  have HUL := Lib.hid ul
  clear hs hf hl us en1 ul
  go_enter Try.func3, Try.ntmps3
  go_wp2_with fail
  refine (new_any a0 cap xs _ hs'.out hf'.out hl'.out).mono ?_; rintro e w1 ⟨rfl, hT1⟩
  replace hT1 : Hid (TapeSome w w1 w.heap.size a0 cap xs) := Lib.hid ⟨0, hT1⟩
  go_wp2_with fail
  go_loopw [16] (fun i wr => ∃ k : Nat, k ≤ 5 ∧ i = .int .i64 k ∧ Hid (TapeSome w wr w.heap.size a0 cap xs)) (fun i _ => 5 - (intOf i).toNat)
  case atStart => exact ⟨0, by omega, rfl, hT1⟩
  case round =>
    clear hT1
    obtain ⟨k, hk, rfl, hT1⟩ := hrel
    by_cases hlt : k < 5
    · have hkI : (k : Int) < 5 := by omega
      have q1k : wrap64 ((k : Int) + 1) = (k : Int) + 1 := by unfold wrap64; omega
      have q4 : k + 1 ≤ 5 := hlt
      go_wp2_with fail
      refine (next_some w w.heap.size a0 cap xs _ _ hT1.out (by omega) (by omega)).mono ?_; rintro e w2 ⟨a, rfl, ha, hT2, hg⟩
      replace hT2 := Lib.hid hT2; clear hg hT1
      go_wp2_with fail
      refine (next_some w w.heap.size a0 cap xs _ _ hT2.out (by omega) (by omega)).mono ?_; rintro e w3 ⟨b, rfl, hb0, hT3, hg⟩
      replace hT3 := Lib.hid hT3; clear hg hT2
      obtain ⟨ab, eab⟩ : ∃ ab, a * b = ab := ⟨_, rfl⟩
      have hab : 0 ≤ ab ∧ ab ≤ 40 := by
        have j1 := Int.mul_nonneg (show 0 ≤ a by omega) (show 0 ≤ b by omega)
        have j2 : a * b ≤ 10 * 4 := Int.mul_le_mul (by omega) (by omega) (by omega) (by omega)
        omega
      have wab : wrap64 (a * b) = ab := by rw [eab]; unfold wrap64; omega
      clear eab
      go_wp2_with fail
      refine (next_some w w.heap.size a0 cap xs _ _ hT3.out (by omega) (by omega)).mono ?_; rintro e w4 ⟨m8, rfl, hm8, hT4, hg⟩
      replace hT4 := Lib.hid hT4; clear hg hT3
      obtain ⟨q7, e7⟩ : ∃ q, m8.tdiv 7 = q := ⟨_, rfl⟩
      have hq7 : 0 ≤ q7 ∧ q7 ≤ 1 := by rw [← e7, Int.tdiv_eq_ediv_of_nonneg (by omega)]; omega
      obtain ⟨n, en⟩ : ∃ n, ab + q7 = n := ⟨_, rfl⟩
      have hn : n ≤ 41 := by omega
      have w7 : wrap64 q7 = q7 := by unfold wrap64; omega
      have wn : wrap64 (ab + q7) = n := by rw [en]; unfold wrap64; omega
      have hpb : Hid (w.heap.size < w4.heap.size) := Lib.hid hT4.out.choose_spec.lt
      clear en hq7 hab hm8
      go_wp2_with fail
      refine (weights_some w w.heap.size a0 cap xs n _ hT4.out hT4.out.choose_spec.below.size (by omega)).mono ?_; rintro e w5 ⟨lv, L, rfl, hLn, hT5, hg, hOL, -⟩
      replace hT5 := Lib.hid hT5; clear hg hT4
      have hl41 : Hid (L.length ≤ 41) := Lib.hid (by omega)
      have HOL := Lib.hid hOL
      by_cases hL0 : 1 ≤ L.length
      · obtain ⟨g, lc, rfl, hPx⟩ := own_row hOL hL0
        have HPx := Lib.hid hPx
        obtain ⟨l, el⟩ : ∃ l, L.length = l := ⟨_, rfl⟩
        rw [el] at hL0 HOL hl41 ⊢
        have ELl := Lib.hid el
        have hl0 : (0 : Int) < l := by omega
        have hl0n : 0 < l := by omega
        clear hOL hPx el hLn wn w7 wab
        go_wp2_with fail
        refine (next_some w w.heap.size a0 cap xs _ _ hT5.out (by omega) (by omega)).mono ?_; rintro e w6 ⟨m4, rfl, hm4, hT6, hg⟩
        have HO6 := Lib.hid (own_far HOL.out hg hpb.out)
        replace hT6 := Lib.hid hT6
        clear hg hT5 HOL
        by_cases h3 : m4 = 3
        · subst h3
          go_wp2_with fail
          refine (pick_lit (ys := [32767, 32768, -32767]) w w.heap.size a0 cap xs _ _ _ _ hT6.out (by simp) (by simp) (by intro j hj; simp at hj; rcases (show j = 0 ∨ j = 1 ∨ j = 2 by omega) with rfl | rfl | rfl <;> rfl)).mono ?_; rintro e w7 ⟨m, rfl, hT7, hg⟩
          have HP7 : Hid (PixAt w4.heap.size w7 g lc L) := Lib.hid (by unfold PixAt; rw [ELl.out]; have := own_far HO6.out hg hpb.out; unfold OwnL at this; rw [ELl.out] at this; exact this)
          replace hT7 := Lib.hid hT7
          clear hg hT6 HO6
          have c0 := HP7.out.cell (k := 0) (by rw [ELl.out]; exact hl0n)
          have f0 := HP7.out.frozen 0
          have HS := Lib.hid (HP7.out.store 0 m)
          have hT8 := Lib.hid (show TapeSome w (w7.setCell ⟨g, 0, none⟩ (.int .i64 m)) w.heap.size a0 cap xs from ⟨hT7.out.choose, hT7.out.choose_spec.keep HS.out.2 (fun q e => by have h9 := HP7.out.lt.1; have h8 := hpb.out; have h7 := Option.some.inj e; have h6 := hT7.out.choose_spec.lo; omega)⟩)
          obtain ⟨L2, eL2⟩ : ∃ L2, L.set 0 m = L2 := ⟨_, rfl⟩
          have ELn := Lib.hid (show L2.length = l by rw [← eL2, List.length_set]; exact ELl.out)
          have HO8 : Hid (OwnL w4.heap.size (w7.setCell ⟨g, 0, none⟩ (.int .i64 m)) (.slice (some ⟨g, 0, none⟩) l lc) L2) := Lib.hid (by have := HS.out.1; rw [eL2] at this; unfold PixAt at this; rw [ELn.out] at this; unfold OwnL; rw [ELn.out]; exact this)
          clear ELl eL2 HS HP7 hT7
          have ELl := ELn
          clear ELn
          go_wp2_with fail
          obtain ⟨w8, e8⟩ : ∃ w8, w7.setCell ⟨g, 0, none⟩ (.int .i64 m) = w8 := ⟨_, rfl⟩
          have hs8 : w8.heap.size = w7.heap.size := by rw [← e8]; simp [World.setCell]
          rw [e8] at HO8 hT8
          rw [e8, ← hs8]
          clear e8 hs8 c0 f0
          refine (pick_lit (ys := [255, 65535, 0, 4294967296, 4294967297]) w w.heap.size a0 cap xs _ _ _ _ hT8.out (by simp) (by simp) (by intro j hj; simp at hj; rcases (show j = 0 ∨ j = 1 ∨ j = 2 ∨ j = 3 ∨ j = 4 by omega) with rfl | rfl | rfl | rfl | rfl <;> rfl)).mono ?_; rintro e x0 ⟨p0, rfl, hT, hg⟩
          have Z0 := Lib.hid (own_far HO8.out hg hpb.out)
          have R0 := Lib.hid hT
          clear hT hg HO8 hT8
          go_wp2_with fail
          refine (pick_lit (ys := [0, 24, 25, -1]) w w.heap.size a0 cap xs _ _ _ _ R0.out (by simp) (by simp) (by intro j hj; simp at hj; rcases (show j = 0 ∨ j = 1 ∨ j = 2 ∨ j = 3 by omega) with rfl | rfl | rfl | rfl <;> rfl)).mono ?_; rintro e x1 ⟨p1, rfl, hT, hg⟩
          have Z1 := Lib.hid (own_far Z0.out hg hpb.out)
          have R1 := Lib.hid hT
          clear hT hg Z0 R0
          go_wp2_with fail
          refine (pick_lit (ys := [255, 0, 4294967296]) w w.heap.size a0 cap xs _ _ _ _ R1.out (by simp) (by simp) (by intro j hj; simp at hj; rcases (show j = 0 ∨ j = 1 ∨ j = 2 by omega) with rfl | rfl | rfl <;> rfl)).mono ?_; rintro e x2 ⟨p2, rfl, hT, hg⟩
          have Z2 := Lib.hid (own_far Z1.out hg hpb.out)
          have R2 := Lib.hid hT
          clear hT hg Z1 R1
          go_wp2_with fail
          obtain ⟨C, eC⟩ : ∃ C, checkC p0 a b L2 p1 p2 = C := ⟨_, rfl⟩
          have EC := Lib.hid eC
          clear eC
          refine (ccheck_n p0 a b L2 p1 p2 l ELl.out _ _ _ (own_is Z2.out) (by have := hl41.out; omega)).mono ?_; rintro e y0 ⟨rfl, hb⟩
          have Y0 := Lib.hid (Z2.out.below hb)
          have Q0 := Lib.hid (tape_mr R2.out hb)
          rw [EC.out]
          clear hb Z2 R2
          go_wp2_with fail
          refine (rcheck_n p0 a b L2 p1 p2 l ELl.out _ _ _ (own_is Y0.out) (by have := hl41.out; omega)).mono ?_; rintro e y1 ⟨rfl, hb⟩
          have Q1 := Lib.hid (tape_mr Q0.out hb)
          rw [EC.out]
          clear hb Y0 Q0
          go_wp2_with fail
          exact ⟨⟨k + 1, q4, by (try rw [q1k]); exact congrArg (Value.int .i64) (by omega), Q1⟩, by (try rw [q1k]); first | exact down_meas hlt | (simp [intOf]; omega)⟩
        · have h3b : (m4 == 3) = false := by simpa using h3
          go_wp2_with fail
          refine (pick_lit (ys := [255, 65535, 0, 4294967296, 4294967297]) w w.heap.size a0 cap xs _ _ _ _ hT6.out (by simp) (by simp) (by intro j hj; simp at hj; rcases (show j = 0 ∨ j = 1 ∨ j = 2 ∨ j = 3 ∨ j = 4 by omega) with rfl | rfl | rfl | rfl | rfl <;> rfl)).mono ?_; rintro e x0 ⟨p0, rfl, hT, hg⟩
          have Z0 := Lib.hid (own_far HO6.out hg hpb.out)
          have R0 := Lib.hid hT
          clear hT hg HO6 hT6
          go_wp2_with fail
          refine (pick_lit (ys := [0, 24, 25, -1]) w w.heap.size a0 cap xs _ _ _ _ R0.out (by simp) (by simp) (by intro j hj; simp at hj; rcases (show j = 0 ∨ j = 1 ∨ j = 2 ∨ j = 3 by omega) with rfl | rfl | rfl | rfl <;> rfl)).mono ?_; rintro e x1 ⟨p1, rfl, hT, hg⟩
          have Z1 := Lib.hid (own_far Z0.out hg hpb.out)
          have R1 := Lib.hid hT
          clear hT hg Z0 R0
          go_wp2_with fail
          refine (pick_lit (ys := [255, 0, 4294967296]) w w.heap.size a0 cap xs _ _ _ _ R1.out (by simp) (by simp) (by intro j hj; simp at hj; rcases (show j = 0 ∨ j = 1 ∨ j = 2 by omega) with rfl | rfl | rfl <;> rfl)).mono ?_; rintro e x2 ⟨p2, rfl, hT, hg⟩
          have Z2 := Lib.hid (own_far Z1.out hg hpb.out)
          have R2 := Lib.hid hT
          clear hT hg Z1 R1
          go_wp2_with fail
          obtain ⟨C, eC⟩ : ∃ C, checkC p0 a b L p1 p2 = C := ⟨_, rfl⟩
          have EC := Lib.hid eC
          clear eC
          refine (ccheck_n p0 a b L p1 p2 l ELl.out _ _ _ (own_is Z2.out) (by have := hl41.out; omega)).mono ?_; rintro e y0 ⟨rfl, hb⟩
          have Y0 := Lib.hid (Z2.out.below hb)
          have Q0 := Lib.hid (tape_mr R2.out hb)
          rw [EC.out]
          clear hb Z2 R2
          go_wp2_with fail
          refine (rcheck_n p0 a b L p1 p2 l ELl.out _ _ _ (own_is Y0.out) (by have := hl41.out; omega)).mono ?_; rintro e y1 ⟨rfl, hb⟩
          have Q1 := Lib.hid (tape_mr Q0.out hb)
          rw [EC.out]
          clear hb Y0 Q0
          go_wp2_with fail
          exact ⟨⟨k + 1, q4, by (try rw [q1k]); exact congrArg (Value.int .i64) (by omega), Q1⟩, by (try rw [q1k]); first | exact down_meas hlt | (simp [intOf]; omega)⟩
      · obtain ⟨la, lc, rfl, -⟩ := hOL.slice
        obtain ⟨l, el⟩ : ∃ l, L.length = l := ⟨_, rfl⟩
        rw [el] at hL0 HOL hl41 ⊢
        have ELl := Lib.hid el
        obtain rfl : l = 0 := by omega
        clear hOL el hLn wn w7 wab
        go_wp2_with fail
        refine (pick_lit (ys := [255, 65535, 0, 4294967296, 4294967297]) w w.heap.size a0 cap xs _ _ _ _ hT5.out (by simp) (by simp) (by intro j hj; simp at hj; rcases (show j = 0 ∨ j = 1 ∨ j = 2 ∨ j = 3 ∨ j = 4 by omega) with rfl | rfl | rfl | rfl | rfl <;> rfl)).mono ?_; rintro e x0 ⟨p0, rfl, hT, hg⟩
        have Z0 := Lib.hid (own_far HOL.out hg hpb.out)
        have R0 := Lib.hid hT
        clear hT hg HOL hT5
        go_wp2_with fail
        refine (pick_lit (ys := [0, 24, 25, -1]) w w.heap.size a0 cap xs _ _ _ _ R0.out (by simp) (by simp) (by intro j hj; simp at hj; rcases (show j = 0 ∨ j = 1 ∨ j = 2 ∨ j = 3 by omega) with rfl | rfl | rfl | rfl <;> rfl)).mono ?_; rintro e x1 ⟨p1, rfl, hT, hg⟩
        have Z1 := Lib.hid (own_far Z0.out hg hpb.out)
        have R1 := Lib.hid hT
        clear hT hg Z0 R0
        go_wp2_with fail
        refine (pick_lit (ys := [255, 0, 4294967296]) w w.heap.size a0 cap xs _ _ _ _ R1.out (by simp) (by simp) (by intro j hj; simp at hj; rcases (show j = 0 ∨ j = 1 ∨ j = 2 by omega) with rfl | rfl | rfl <;> rfl)).mono ?_; rintro e x2 ⟨p2, rfl, hT, hg⟩
        have Z2 := Lib.hid (own_far Z1.out hg hpb.out)
        have R2 := Lib.hid hT
        clear hT hg Z1 R1
        go_wp2_with fail
        obtain ⟨C, eC⟩ : ∃ C, checkC p0 a b L p1 p2 = C := ⟨_, rfl⟩
        have EC := Lib.hid eC
        clear eC
        refine (ccheck_n p0 a b L p1 p2 0 ELl.out _ _ _ (own_is Z2.out) (by have := hl41.out; omega)).mono ?_; rintro e y0 ⟨rfl, hb⟩
        have Y0 := Lib.hid (Z2.out.below hb)
        have Q0 := Lib.hid (tape_mr R2.out hb)
        rw [EC.out]
        clear hb Z2 R2
        go_wp2_with fail
        refine (rcheck_n p0 a b L p1 p2 0 ELl.out _ _ _ (own_is Y0.out) (by have := hl41.out; omega)).mono ?_; rintro e y1 ⟨rfl, hb⟩
        have Q1 := Lib.hid (tape_mr Q0.out hb)
        rw [EC.out]
        clear hb Y0 Q0
        go_wp2_with fail
        exact ⟨⟨k + 1, q4, by (try rw [q1k]); exact congrArg (Value.int .i64) (by omega), Q1⟩, by (try rw [q1k]); first | exact down_meas hlt | (simp [intOf]; omega)⟩
    · obtain rfl : k = 5 := by omega
      by_cases hbig : (1000 : Int) < n1
      · go_wp2_with fail
        refine (sane_is _).mono ?_; rintro e w6 ⟨rfl, hb⟩
        have hfin := Lib.hid (bthen hT1.out.choose_spec.below hb)
        clear hb
        go_wp2_with fail
        go_returns
        exact ⟨rfl, hfin.out⟩
      · obtain ⟨C, eC⟩ : ∃ C, checkC mx kw kh F sh out = C := ⟨_, rfl⟩
        have EC := Lib.hid eC
        clear eC
        go_wp2_with fail
        refine (ccheck_n mx kw kh F sh out n1 EF.out _ _ _ (is_below HF.out hT1.out.choose_spec.below) HUL.out).mono ?_; rintro e w6 ⟨rfl, hb⟩
        have hB6 := Lib.hid (bthen hT1.out.choose_spec.below hb)
        rw [EC.out]
        clear hb
        go_wp2_with fail
        refine (rcheck_n mx kw kh F sh out n1 EF.out _ _ _ (is_below HF.out hB6.out) HUL.out).mono ?_; rintro e w7 ⟨rfl, hb⟩
        have hB7 := Lib.hid (bthen hB6.out hb)
        rw [EC.out]
        clear hb
        go_wp2_with fail
        refine (sane_is _).mono ?_; rintro e w8 ⟨rfl, hb⟩
        have hfin := Lib.hid (bthen hB7.out hb)
        clear hb
        go_wp2_with fail
        go_returns
        exact ⟨rfl, hfin.out⟩
namespace convolveChecks
theorem own : ownKnob Try.prog.godebug = none := by kernel_rfl
theorem laid : laidOutB Try.prog = true := by kernel_rfl
theorem params_ok : ∀ t ∈ Try.f3.params.toList, Try.prog.readableRec t = true ∧ t < Try.prog.types.size := by
  rw [Try.params3]
  intro t ht
  simp at ht
  rcases ht with rfl | rfl | rfl | rfl | rfl | rfl | rfl <;> exact ⟨by kernel_rfl, of_decide_eq_true (by kernel_rfl)⟩
set_option maxRecDepth 100000 in
theorem lifted (os : Os) (started : os.Started) (H : Type) (enc : TypeId × Value → H) :
    ReturnsInHanded {} Try.checked os 3 .any (Rows.convolveChecksSpec.pre6 enc Try.prog Try.f3 Rows.convolveChecksRow.domain false) (Rows.convolveChecksSpec.post enc Try.prog Try.f3 false true false false) := by
  refine returnsInHanded_of_change (C := Try.checked) own started (by kernel_rfl) Try.func3
    (ChangeSpec.witness6 (enc := enc) (C := Try.checked) false ⟨#[], #[.slice none 0 0, .slice none 0 0, .int .i64 0, .int .i64 0, .int .i64 0, .int .i64 0, .int .i64 0], []⟩ 8 (by kernel_rfl) (by kernel_rfl) (by kernel_rfl) (by kernel_rfl)) ?_
  intro W base args ds gs before hval0 hW hcnd _
  have hval : ∀ (j : Nat) t v, Try.f3.params[j]? = some t → args[j]? = some v → Value.okWide Try.prog W .any base t v := hval0
  have hW' := hW
  obtain ⟨p, q, hA0, hV, rfl, hfz, hnd⟩ := hW
  have hA : DataW.TrodAll enc Try.prog W 0 (fun _ => true) true Try.f3.params.toList args.toList ds p := hA0
  rw [Try.params3] at hA hval
  obtain ⟨v0, vs0, d0, ds0, p0, q0, hargs, rfl, rfl, h0, r0⟩ := trodAll_cons hA
  obtain ⟨v1, vs1, d1, ds1, p1, q1, rfl, rfl, rfl, h1, r1⟩ := trodAll_cons r0
  obtain ⟨v2, vs2, d2, ds2, p2, q2, rfl, rfl, rfl, h2, r2⟩ := trodAll_cons r1
  obtain ⟨v3, vs3, d3, ds3, p3, q3, rfl, rfl, rfl, h3, r3⟩ := trodAll_cons r2
  obtain ⟨v4, vs4, d4, ds4, p4, q4, rfl, rfl, rfl, h4, r4⟩ := trodAll_cons r3
  obtain ⟨v5, vs5, d5, ds5, p5, q5, rfl, rfl, rfl, h5, r5⟩ := trodAll_cons r4
  obtain ⟨v6, vs6, d6, ds6, p6, q6, rfl, rfl, rfl, h6, r6⟩ := trodAll_cons r5
  obtain ⟨rfl, rfl, rfl⟩ := trodAll_nil r6
  obtain rfl : args = #[v0, v1, v2, v3, v4, v5, v6] := by cases args; simp_all
  obtain ⟨rfl, rfl⟩ := trodVars_none hV
  obtain ⟨a0, len, cap, rfl⟩ := okWide_slice Try.underlying22 (hval 0 22 v0 rfl rfl)
  obtain ⟨xs, rfl, hs, hf, hl⟩ := open_list h0
  obtain ⟨b1, len1, d1c, rfl⟩ := okWide_slice Try.underlying22 (hval 1 22 v1 rfl rfl)
  obtain ⟨ys1, rfl, us1, uf1, ul1⟩ := open_list h1
  obtain ⟨i2, rfl, rfl, rfl, w2⟩ := open_int Try.underlying3 (hval 2 3 v2 rfl rfl) h2
  obtain ⟨i3, rfl, rfl, rfl, w3⟩ := open_int Try.underlying3 (hval 3 3 v3 rfl rfl) h3
  obtain ⟨i4, rfl, rfl, rfl, w4⟩ := open_int Try.underlying3 (hval 4 3 v4 rfl rfl) h4
  obtain ⟨i5, rfl, rfl, rfl, w5⟩ := open_int Try.underlying3 (hval 5 3 v5 rfl rfl) h5
  obtain ⟨i6, rfl, rfl, rfl, w6⟩ := open_int Try.underlying3 (hval 6 3 v6 rfl rfl) h6
  clear hA0 hval0
  have fin : Calls Try.prog 3 #[.slice a0 xs.length cap, .slice b1 ys1.length d1c, .int .i64 i2, .int .i64 i3, .int .i64 i4, .int .i64 i5, .int .i64 i6] W (TestPost true W) := checks_walk xs a0 cap ys1 b1 d1c i2 i3 i4 i5 i6 W hs hf hl us1 ul1
  refine fin.mono fun e W' ⟨he, hb⟩ => ?_
  subst he
  exact ⟨_, rfl, law_post laid rfl Try.underlying4 params_ok rfl hW' rfl hb⟩

theorem over : Rows.convolveChecksRow.holds Try.pinned (OpenSpec.ofChange Rows.convolveChecksSpec) :=
  OpenClaim.holds_of_wide 3 Try.f3 rfl rfl rfl rfl rfl rfl rfl ⟨rfl, rfl, rfl, rfl, rfl⟩ rfl rfl rfl rfl rfl (by kernel_rfl) Try.func3 (by kernel_rfl)
    (of_decide_eq_true (by kernel_rfl)) (by unfold Func.isWrapper; first | (rw [if_pos (by decide +kernel)]; kernel_rfl) | (rw [if_neg (by decide +kernel)]; exact ⟨rfl, rfl⟩))
    (fun os started H enc _ => lifted os started H enc)

/-- the statement -/
theorem proved : Rows.ConvolveChecksSaid := over
#print axioms proved
end convolveChecks
end Go.Proofs.Ytibmoibhbgbfoaa
