/- For every list of numbers and every two ints the statement GridTouches returns true: exactly the tiles are named that a rectangle touches, in ascending order. No condition on them. -/
import Derived.Test.YtpbapamoihkaoaaGTouchFacts
import Derived.Test.YtpbapamoihkaoaaGridTiles
import Derived.Test.YtpbapamoihkaoaaGPartPlain
namespace Go.Proofs.Ytpbapamoihkaoaa
open Go.ChangeShapes Go.WideShapes Go.ChangeAt Go.RowKit
set_option linter.unusedVariables false
set_option linter.unusedSimpArgs false

/-- where the walk stands: new blocks, the rectangle's box, the list -/
def TouchIn (w : World) (q : Nat) (a b c d : Int) (sl : Option Addr) (L : List Int) (wr : World) : Prop := Below w.heap.size w wr ∧ Box wr q a b c d ∧ SliceIs wr sl L
theorem TouchIn.step {w : World} {q : Nat} {a b c d : Int} {sl : Option Addr} {L : List Int} {wr w' : World} (h : TouchIn w q a b c d sl L wr) (hb : Below wr.heap.size wr w') : TouchIn w q a b c d sl L w' := ⟨bthen h.1 hb, h.2.1.below hb, is_below h.2.2 hb⟩
/-- what the region reads, laid open, beside where the walk stands -/
abbrev TouchS (w : World) (q0 : Nat) (a b c d : Int) (sl : Option Addr) (L : List Int) (q1 : Nat) (p q r s : Int) (g o1 o2 : Nat) (z1 z2 : Int) (w' : World) : Prop :=
  Hid (TouchIn w q0 a b c d sl L w') ∧ BoxA w' q0 a b c d ∧ BoxA w' q1 p q r s ∧ w'.cell? ⟨g, o1, none⟩ = some (.int .i64 z1) ∧ w'.cell? ⟨g, o2, none⟩ = some (.int .i64 z2)
theorem touchS_below {w : World} {q0 : Nat} {a b c d : Int} {sl : Option Addr} {L : List Int} {q1 : Nat} {p q r s : Int} {g o1 o2 : Nat} {z1 z2 : Int} {w' w'' : World} (hb : Below w'.heap.size w' w'') (h : TouchS w q0 a b c d sl L q1 p q r s g o1 o2 z1 z2 w') : TouchS w q0 a b c d sl L q1 p q r s g o1 o2 z1 z2 w'' :=
  ⟨Lib.hid (h.1.out.step hb), boxA_below hb h.2.1, boxA_below hb h.2.2.1, bkeep hb h.2.2.2.1, bkeep hb h.2.2.2.2⟩
theorem rempty_l {a b c d : Int} {v : Bool} (h : emptyB a b c d = v) (w : World) : Calls Try.prog 20 #[.agg #[.int .i64 a, .int .i64 b, .int .i64 c, .int .i64 d]] w fun e w' => e = .returned (.bool v) ∧ Below w.heap.size w w' := rempty_is h w
set_option maxRecDepth 100000 in
set_option maxHeartbeats 4000000 in
theorem touches_walk (xs : List Int) (a0 : Option Addr) (cap : Nat) (i1 i2 : Int) (w : World) (hs : SliceIs w a0 xs) (hf : Fits xs) (hl : xs.length ≤ 9223372036854775807)
    (f1 : -9223372036854775808 ≤ i1 ∧ i1 ≤ 9223372036854775807) (f2 : -9223372036854775808 ≤ i2 ∧ i2 ≤ 9223372036854775807) :
    Calls Try.prog 6 #[.slice a0 xs.length cap, .int .i64 i1, .int .i64 i2] w (TestPost true w) := by
  have hs' := Lib.hid hs
  have hf' := Lib.hid hf
  have hl' := Lib.hid hl
  clear hs hf hl
  go_enter Try.func6, Try.ntmps6
  go_wp2_with fail
  refine (new_any a0 cap xs _ hs'.out hf'.out hl'.out).mono ?_; rintro e w1 ⟨rfl, hT⟩
  replace hT : Hid (TapeSome w w1 w.heap.size a0 cap xs) := Lib.hid ⟨0, hT⟩
  clear hs' hf' hl'
  go_wp2_with fail
  refine (next_some w w.heap.size a0 cap xs _ _ hT.out (by omega) (by omega)).mono ?_; rintro e w2 ⟨m1, rfl, hm1, hT2, hg⟩; replace hT2 := Lib.hid hT2; clear hg hT
  go_wp2_with fail
  refine (next_some w w.heap.size a0 cap xs _ _ hT2.out (by omega) (by omega)).mono ?_; rintro e w3 ⟨m2, rfl, hm2, hT3, hg⟩; replace hT3 := Lib.hid hT3; clear hg hT2
  go_wp2_with fail
  refine (next_some w w.heap.size a0 cap xs _ _ hT3.out (by omega) (by omega)).mono ?_; rintro e w4 ⟨m3, rfl, hm3, hT4, hg⟩; replace hT4 := Lib.hid hT4; clear hg hT3
  go_wp2_with fail
  refine (next_some w w.heap.size a0 cap xs _ _ hT4.out (by omega) (by omega)).mono ?_; rintro e w5 ⟨m4, rfl, hm4, hT5, hg⟩; replace hT5 := Lib.hid hT5; clear hg hT4
  obtain ⟨W, gW⟩ : ∃ W, 1 + m1 = W := ⟨_, rfl⟩
  obtain ⟨H, gH⟩ : ∃ H, 1 + m2 = H := ⟨_, rfl⟩
  obtain ⟨T, gT⟩ : ∃ T, 1 + m3 = T := ⟨_, rfl⟩
  obtain ⟨U, gU⟩ : ∃ U, 1 + m4 = U := ⟨_, rfl⟩
  have bW : 1 ≤ W ∧ W ≤ 9 := by omega
  have bH : 1 ≤ H ∧ H ≤ 9 := by omega
  have bT : 1 ≤ T ∧ T ≤ 4 := by omega
  have bU : 1 ≤ U ∧ U ≤ 4 := by omega
  go_wp2_with fail
  refine (rect_some w w.heap.size a0 cap xs _ hT5.out).mono ?_; rintro e w6 ⟨X0, Y0, X1, Y1, rfl, hbd, hT6, hg⟩
  have hB6 := Lib.hid (balloc (show Below w.heap.size w w6 from hT6.choose_spec.below) (.cells #[.int .i64 X0, .int .i64 Y0, .int .i64 X1, .int .i64 Y1] 31))
  have hX6 := Lib.hid (Box.new w6 X0 Y0 X1 Y1 31)
  clear hg hT5 hT6 hbd
  obtain ⟨q0, eq0⟩ : ∃ q0, w6.heap.size = q0 := ⟨_, rfl⟩
  obtain ⟨L, eL⟩ : ∃ L, touchL W H T U X0 Y0 X1 Y1 = L := ⟨_, rfl⟩
  have hLl := touchL_len W H T U X0 Y0 X1 Y1
  have HLt : Hid (∀ k : Nat, k < L.length → touchB W H T U X0 Y0 X1 Y1 (L.getD k 0) = true ∧ 0 ≤ L.getD k 0 ∧ L.getD k 0 ≤ 16384) := Lib.hid (fun k hk => by rw [← eL] at hk ⊢; exact touch_at_k hk)
  have HLu : Hid (∀ j k : Nat, j < k → k < L.length → L.getD j 0 < L.getD k 0) := Lib.hid (fun j k hj hk => by rw [← eL] at hk ⊢; exact touch_up hj hk)
  rw [eL] at hLl
  have EL := Lib.hid eL
  clear eL
  go_wp2_with fail
  refine (gtouch_is EL.out _).mono ?_; rintro e w7 ⟨sl, sc, rfl, hsl, hb⟩
  rw [eq0] at hX6
  have HS : Hid (TouchIn w q0 X0 Y0 X1 Y1 sl L w7) := Lib.hid ⟨bthen hB6.out hb, hX6.out.below hb, hsl⟩
  clear hB6 hX6 hb hsl eq0
  obtain ⟨x, ex⟩ : ∃ x, i1 % W = x := ⟨_, rfl⟩
  obtain ⟨y, ey⟩ : ∃ y, i2 % H = y := ⟨_, rfl⟩
  have bx : 0 ≤ x ∧ x < W := by rw [← ex]; exact pos_mod _ _ (by omega)
  have by' : 0 ≤ y ∧ y < H := by rw [← ey]; exact pos_mod _ _ (by omega)
  have Ex := Lib.hid ex
  have Ey := Lib.hid ey
  clear ex ey
  have hfi := fine_of (a := W) (b := H) (c := T) (d := U) (by omega) (by omega) (by omega) (by omega)
  have ho : ofB W H T U x y = true := ofB_t.2 ⟨hfi, by omega⟩
  obtain ⟨n, en⟩ : ∃ n, ofN W H T U x y = n := ⟨_, rfl⟩
  have Hpt : Hid (containsB X0 Y0 X1 Y1 x y = true → n ∈ L) := Lib.hid (fun hc => by rw [← en, ← EL.out]; exact touch_point ho hc)
  have HO := Lib.hid ho
  have En := Lib.hid en
  clear hfi ho en
  go_wp2_with fail
  refine (mod_rng _ _ _ (by omega) (by omega) (by omega) (by omega) Ex.out).mono ?_; rintro e w8 ⟨rfl, rfl⟩
  go_wp2_with fail
  refine (mod_rng _ _ _ (by omega) (by omega) (by omega) (by omega) Ey.out).mono ?_; rintro e w8 ⟨rfl, rfl⟩
  go_wp2_with fail
  refine (gof_is En.out HO.out _).mono ?_; rintro e w8 ⟨rfl, hb⟩
  have HS8 := Lib.hid (HS.out.step hb)
  clear HS hb
  go_wp2_with fail
  go_loopw [18, 19] (fun f i wr => ∃ (k : Nat) (F : Bool), k ≤ L.length ∧ i = .int .i64 k ∧ f = .bool F ∧ Hid (F = decide (n ∈ L.take k)) ∧ Hid (TouchIn w q0 X0 Y0 X1 Y1 sl L wr)) (fun _ i _ => L.length - (intOf i).toNat)
  case atStart => exact ⟨0, false, by omega, rfl, rfl, Lib.hid (by simp), HS8⟩
  case round =>
    clear HS8
    obtain ⟨k, F, hk, rfl, rfl, HF, HS⟩ := hrel
    by_cases hlt : k < L.length
    · have hkI : (k : Int) < L.length := by omega
      have hkI0 : (0 : Int) ≤ k := by omega
      obtain ⟨g, off, rfl, hcell⟩ := HS.out.2.2 k hlt
      obtain ⟨ht, hv0, hv1⟩ := HLt.out k hlt
      have hF2 := take_more hlt n
      rw [← HF.out] at hF2
      have HU := Lib.hid (HLu.out (k - 1) k)
      obtain ⟨v, ev⟩ : ∃ v, L.getD k 0 = v := ⟨_, rfl⟩
      rw [ev] at hcell ht hv0 hv1 hF2
      have HF2 := Lib.hid hF2
      have hti := (touch_iff ..).1 ht
      obtain ⟨p, q, r, s, eT⟩ : ∃ p q r s, tileR W H T U v = ⟨p, q, r, s⟩ := ⟨_, _, _, _, rfl⟩
      unfold touchB at ht
      rw [eT] at ht
      dsimp only at ht
      obtain ⟨p', q', r', s', eI⟩ : ∃ p' q' r' s', interR p q r s X0 Y0 X1 Y1 = ⟨p', q', r', s'⟩ := ⟨_, _, _, _, rfl⟩
      rw [eI, Bool.not_eq_true'] at ht
      dsimp only at ht
      have HtB := Lib.hid hti.1
      have HT := Lib.hid eT
      have HI := Lib.hid eI
      have HE := Lib.hid ht
      have Hv := Lib.hid ev
      clear ht hti eT eI ev hF2 HF
      have hq := HS.out.2.1.lt
      go_wp2_with fail
      refine (gtile_is HtB.out HT.out _).mono ?_; rintro e w9 ⟨rfl, hb⟩
      have HS9 := Lib.hid ((HS.out.step hb).step (balloc (bref w9) (.cells #[.int .i64 p, .int .i64 q, .int .i64 r, .int .i64 s] 31)))
      have HX9 := Lib.hid (Box.new w9 p q r s 31)
      clear HS hb hcell hq
      obtain ⟨wx, ewx⟩ : ∃ wx, w9.alloc (.cells #[.int .i64 p, .int .i64 q, .int .i64 r, .int .i64 s] 31) = wx := ⟨_, rfl⟩
      obtain ⟨q1, eq1⟩ : ∃ q1, w9.heap.size = q1 := ⟨_, rfl⟩
      rw [ewx] at HS9 HX9
      rw [eq1] at HX9
      obtain ⟨b1, o1, e1, hc1⟩ := HS9.out.2.2 k hlt
      simp only [Option.some.injEq, Addr.mk.injEq] at e1
      obtain ⟨rfl, rfl, _⟩ := e1
      rw [Hv.out] at hc1
      go_upto_region 12 with fail
      clear ewx eq1
      obtain ⟨z, ez⟩ : ∃ z, (v == n) = z := ⟨_, rfl⟩
      have HF3 : Hid (decide (n ∈ L.take (k + 1)) = (F || z)) := Lib.hid (by rw [HF2.out, ez])
      clear HF2
      obtain ⟨j, u, hj, hju, hlj⟩ : ∃ (j : Nat) (u : Int), ((k = 0 ∧ j = k ∧ u = v) ∨ (0 < k ∧ (k : Int) - 1 = j ∧ u < v)) ∧ L.getD j 0 = u ∧ j < L.length := by
        by_cases hz : k = 0
        · exact ⟨k, v, .inl ⟨hz, rfl, rfl⟩, Hv.out, hlt⟩
        · refine ⟨k - 1, L.getD (k - 1) 0, .inr ⟨by omega, by omega, ?_⟩, rfl, by omega⟩
          have := HU.out (by omega) hlt
          rw [Hv.out] at this; exact this
      obtain ⟨b2, o2, e2, hc2⟩ := HS9.out.2.2 j hlj
      simp only [Option.some.injEq, Addr.mk.injEq] at e2
      obtain ⟨rfl, rfl, _⟩ := e2
      rw [hju] at hc2
      have hO : TouchS w q0 X0 Y0 X1 Y1 (some ⟨g, off, none⟩) L q1 p q r s g (off + k) (off + j) v u wx.drew := touchS_below (bdrewN (bref wx) 1) ⟨HS9, HS9.out.2.1, HX9.out, hc1, hc2⟩
      clear HS9 HX9 hc1 hc2 hju HU Hv
      haveI : Nonempty (In (TouchS w q0 X0 Y0 X1 Y1 (some ⟨g, off, none⟩) L q1 p q r s g (off + k) (off + j) v u)) := ⟨⟨_, hO⟩⟩
      have k0 : ∀ s9 : In (TouchS w q0 X0 Y0 X1 Y1 (some ⟨g, off, none⟩) L q1 p q r s g (off + k) (off + j) v u), s9.w.cell? ⟨q0, 0, none⟩ = some (.int .i64 X0) := fun s9 => s9.h.2.1.1
      have k1 : ∀ s9 : In (TouchS w q0 X0 Y0 X1 Y1 (some ⟨g, off, none⟩) L q1 p q r s g (off + k) (off + j) v u), s9.w.cell? ⟨q0, 1, none⟩ = some (.int .i64 Y0) := fun s9 => s9.h.2.1.2.1
      have k2 : ∀ s9 : In (TouchS w q0 X0 Y0 X1 Y1 (some ⟨g, off, none⟩) L q1 p q r s g (off + k) (off + j) v u), s9.w.cell? ⟨q0, 2, none⟩ = some (.int .i64 X1) := fun s9 => s9.h.2.1.2.2.1
      have k3 : ∀ s9 : In (TouchS w q0 X0 Y0 X1 Y1 (some ⟨g, off, none⟩) L q1 p q r s g (off + k) (off + j) v u), s9.w.cell? ⟨q0, 3, none⟩ = some (.int .i64 Y1) := fun s9 => s9.h.2.1.2.2.2
      have j0 : ∀ s9 : In (TouchS w q0 X0 Y0 X1 Y1 (some ⟨g, off, none⟩) L q1 p q r s g (off + k) (off + j) v u), s9.w.cell? ⟨q1, 0, none⟩ = some (.int .i64 p) := fun s9 => s9.h.2.2.1.1
      have j1 : ∀ s9 : In (TouchS w q0 X0 Y0 X1 Y1 (some ⟨g, off, none⟩) L q1 p q r s g (off + k) (off + j) v u), s9.w.cell? ⟨q1, 1, none⟩ = some (.int .i64 q) := fun s9 => s9.h.2.2.1.2.1
      have j2 : ∀ s9 : In (TouchS w q0 X0 Y0 X1 Y1 (some ⟨g, off, none⟩) L q1 p q r s g (off + k) (off + j) v u), s9.w.cell? ⟨q1, 2, none⟩ = some (.int .i64 r) := fun s9 => s9.h.2.2.1.2.2.1
      have j3 : ∀ s9 : In (TouchS w q0 X0 Y0 X1 Y1 (some ⟨g, off, none⟩) L q1 p q r s g (off + k) (off + j) v u), s9.w.cell? ⟨q1, 3, none⟩ = some (.int .i64 s) := fun s9 => s9.h.2.2.1.2.2.2
      have l0 : ∀ s9 : In (TouchS w q0 X0 Y0 X1 Y1 (some ⟨g, off, none⟩) L q1 p q r s g (off + k) (off + j) v u), s9.w.cell? ⟨g, off + k, none⟩ = some (.int .i64 v) := fun s9 => s9.h.2.2.2.1
      have l1 : ∀ s9 : In (TouchS w q0 X0 Y0 X1 Y1 (some ⟨g, off, none⟩) L q1 p q r s g (off + k) (off + j) v u), s9.w.cell? ⟨g, off + j, none⟩ = some (.int .i64 u) := fun s9 => s9.h.2.2.2.2
      refine wp_region_in (S := TouchS w q0 X0 Y0 X1 Y1 (some ⟨g, off, none⟩) L q1 p q r s g (off + k) (off + j) v u) (by kernel_rfl) (by kernel_rfl) hO ?_
      clear hO
      rcases hj with ⟨hk0, hjk, huv⟩ | ⟨hk0, hkj, huv⟩
      · have hz : ¬ (0 : Int) < k := by omega
        have hz2 : decide ((0 : Int) < k) = false := by simp; omega
        have hz3 : decide (0 < k) = false := by simp; omega
        have hz4 : ¬ 0 < k := by omega
        clear hk0 hjk huv l1
        repeat (go_big_quiet_step (first
          | (go_at_call 21; exact in_below _ (fun hb h => touchS_below hb h) (rinter_is HI.out _))
          | (go_at_call 20; exact in_below _ (fun hb h => touchS_below hb h) (rempty_l HE.out _))))
        refine wpQuiet_nil ?_
        rintro _ ⟨s9, rfl⟩
        have HS10 := Lib.hid s9.h.1.out
        have hc9 := s9.h.2.2.2.1
        clear k0 k1 k2 k3 j0 j1 j2 j3 l0
        have hez : (v == n) = z := ez
        rcases F with _ | _
        · go_wp2_with fail
          go_roundw
          case rel => exact ⟨k + 1, z, by omega, by go_num, rfl, Lib.hid (by rw [HF3.out]; rfl), HS10⟩
          case measure => simp [intOf]; omega
        · go_wp2_with fail
          go_roundw
          case rel => exact ⟨k + 1, true, by omega, by go_num, rfl, Lib.hid (by rw [HF3.out]; rfl), HS10⟩
          case measure => simp [intOf]; omega
      · have hz : (0 : Int) < k := by omega
        have hz2 : decide ((0 : Int) < k) = true := by simp; omega
        have hj0 : (0 : Int) ≤ j := by omega
        have hj1 : (j : Int) < L.length := by omega
        have hw1 : IntKind.i64.wrap ((k : Int) - 1) = j := by rw [hkj]; exact IntWalk.i64_in _ (by omega)
        have huv2 : ¬ v ≤ u := by omega
        repeat (go_big_quiet_step (first
          | (go_at_call 21; exact in_below _ (fun hb h => touchS_below hb h) (rinter_is HI.out _))
          | (go_at_call 20; exact in_below _ (fun hb h => touchS_below hb h) (rempty_l HE.out _))))
        refine wpQuiet_nil ?_
        rintro _ ⟨s9, rfl⟩
        have HS10 := Lib.hid s9.h.1.out
        have hc9 := s9.h.2.2.2.1
        clear k0 k1 k2 k3 j0 j1 j2 j3 l0 l1
        have hez : (v == n) = z := ez
        rcases F with _ | _
        · go_wp2_with fail
          go_roundw
          case rel => exact ⟨k + 1, z, by omega, by go_num, rfl, Lib.hid (by rw [HF3.out]; rfl), HS10⟩
          case measure => simp [intOf]; omega
        · go_wp2_with fail
          go_roundw
          case rel => exact ⟨k + 1, true, by omega, by go_num, rfl, Lib.hid (by rw [HF3.out]; rfl), HS10⟩
          case measure => simp [intOf]; omega
    · obtain rfl : k = L.length := by omega
      have HF2 : Hid (F = decide (n ∈ L)) := Lib.hid (by rw [HF.out, List.take_length])
      clear HF
      obtain ⟨k0, k1, k2, k3⟩ := HS.out.2.1
      have hq := HS.out.2.1.lt
      rcases F with _ | _
      · have hc : containsB X0 Y0 X1 Y1 x y = false := by
          rcases hc : containsB X0 Y0 X1 Y1 x y with _ | _
          · rfl
          · have h1 := Hpt.out hc
            have h2 := HF2.out
            simp [h1] at h2
        have HC := Lib.hid hc
        clear hc HF2
        go_wp2_with fail
        refine (rcontains_is HC.out _).mono ?_; rintro e w9 ⟨rfl, hb⟩
        have HS9 := Lib.hid (bthen HS.out.1 hb)
        clear HS hb k0 k1 k2 k3
        go_wp2_with fail
        refine (sane_is _).mono ?_; rintro e w10 ⟨rfl, hb⟩
        have HS10 := Lib.hid (bthen HS9.out hb)
        clear hb HS9
        go_wp2_with fail
        go_ret
        exact ⟨rfl, HS10.out⟩
      · clear HF2
        go_wp2_with fail
        refine (sane_is _).mono ?_; rintro e w10 ⟨rfl, hb⟩
        have HS10 := Lib.hid (bthen HS.out.1 hb)
        clear hb HS
        go_wp2_with fail
        go_ret
        exact ⟨rfl, HS10.out⟩
namespace gridTouches
theorem own : ownKnob Try.prog.godebug = none := by kernel_rfl
theorem laid : laidOutB Try.prog = true := by kernel_rfl
theorem params_ok : ∀ t ∈ Try.f6.params.toList, Try.prog.readableRec t = true ∧ t < Try.prog.types.size := by
  rw [Try.params6]
  intro t ht
  simp at ht
  rcases ht with rfl | rfl | rfl <;> exact ⟨by kernel_rfl, of_decide_eq_true (by kernel_rfl)⟩
set_option maxRecDepth 100000 in
theorem lifted (os : Os) (started : os.Started) (H : Type) (enc : TypeId × Value → H) :
    ReturnsInHanded {} Try.checked os 6 .any (Rows.gridTouchesSpec.pre6 enc Try.prog Try.f6 Rows.gridTouchesRow.domain false) (Rows.gridTouchesSpec.post enc Try.prog Try.f6 false true false false) := by
  refine returnsInHanded_of_change (C := Try.checked) own started (by kernel_rfl) Try.func6
    (ChangeSpec.witness6 (enc := enc) (C := Try.checked) false ⟨#[], #[.slice none 0 0, .int .i64 0, .int .i64 0], []⟩ 8 (by kernel_rfl) (by kernel_rfl) (by kernel_rfl) (by kernel_rfl)) ?_
  intro W base args ds gs before hval0 hW hcnd _
  have hval : ∀ (j : Nat) t v, Try.f6.params[j]? = some t → args[j]? = some v → Value.okWide Try.prog W .any base t v := hval0
  have hW' := hW
  obtain ⟨p, q, hA0, hV, rfl, hfz, hnd⟩ := hW
  have hA : DataW.TrodAll enc Try.prog W 0 (fun _ => true) true Try.f6.params.toList args.toList ds p := hA0
  rw [Try.params6] at hA hval
  obtain ⟨v0, vs0, d0, ds0, p0, q0, hargs, rfl, rfl, h0, r0⟩ := trodAll_cons hA
  obtain ⟨v1, vs1, d1, ds1, p1, q1, rfl, rfl, rfl, h1, r1⟩ := trodAll_cons r0
  obtain ⟨v2, vs2, d2, ds2, p2, q2, rfl, rfl, rfl, h2, r2⟩ := trodAll_cons r1
  obtain ⟨rfl, rfl, rfl⟩ := trodAll_nil r2
  obtain rfl : args = #[v0, v1, v2] := by cases args; simp_all
  obtain ⟨rfl, rfl⟩ := trodVars_none hV
  obtain ⟨a0, len, cap, rfl⟩ := okWide_slice Try.underlying29 (hval 0 29 v0 rfl rfl)
  obtain ⟨xs, rfl, hs, hf, hl⟩ := open_list h0
  obtain ⟨i1, rfl, rfl, rfl, w1⟩ := open_int Try.underlying3 (hval 1 3 v1 rfl rfl) h1
  obtain ⟨i2, rfl, rfl, rfl, w2⟩ := open_int Try.underlying3 (hval 2 3 v2 rfl rfl) h2
  clear hA0 hval0
  have fin : Calls Try.prog 6 #[.slice a0 xs.length cap, .int .i64 i1, .int .i64 i2] W (TestPost true W) := touches_walk xs a0 cap i1 i2 W hs hf hl (wf_bd w1) (wf_bd w2)
  refine fin.mono fun e W' ⟨he, hb⟩ => ?_
  subst he
  exact ⟨_, rfl, law_post laid rfl Try.underlying4 params_ok rfl hW' rfl hb⟩

theorem over : Rows.gridTouchesRow.holds Try.pinned (OpenSpec.ofChange Rows.gridTouchesSpec) :=
  OpenClaim.holds_of_wide 6 Try.f6 rfl rfl rfl rfl rfl rfl rfl ⟨rfl, rfl, rfl, rfl, rfl⟩ rfl rfl rfl rfl rfl (by kernel_rfl) Try.func6 (by kernel_rfl)
    (of_decide_eq_true (by kernel_rfl)) (by unfold Func.isWrapper; first | (rw [if_pos (by decide +kernel)]; kernel_rfl) | (rw [if_neg (by decide +kernel)]; exact ⟨rfl, rfl⟩))
    (fun os started H enc _ => lifted os started H enc)

/-- the statement -/
theorem proved : Rows.GridTouchesSaid := over
#print axioms proved
end gridTouches
end Go.Proofs.Ytpbapamoihkaoaa
