/- The tiles that a rectangle touches, as a contract of the program: the list that it returns; the world gets new blocks at most. -/
import Derived.Test.YtpbapamoihkaoaaGRTouch
import Derived.Test.YtpbapamoihkaoaaWithin
import Derived.Test.YtpbapamoihkaoaaGOf
import Derived.Deep.RegionHeld3
import Derived.Deep.DeepMust
import Derived.Deep.DeepCutAuto
namespace Go.Proofs.Ytpbapamoihkaoaa
open Go.ChangeShapes Go.WideShapes Go.ChangeAt Go.RowKit
set_option linter.unusedVariables false
set_option linter.unusedSimpArgs false

theorem whole_is (x y : Int) (w : World) : Calls Try.prog 23 #[.int .i64 x, .int .i64 y] w fun e w' => e = .returned (.agg #[.int .i64 0, .int .i64 0, .int .i64 x, .int .i64 y]) ∧ Below w.heap.size w w' := whole_any x y w
/-- four zeros in a new block may be written -/
theorem open_zero (w : World) : Open4 (w.alloc (.cells #[.int .i64 0, .int .i64 0, .int .i64 0, .int .i64 0] 31)) w.heap.size := Open4.new _ _ _ _ _ _
theorem Open4.vals {w : World} {p : Nat} (h : Open4 w p) : ∃ u0 u1 u2 u3, w.cell? ⟨p, 0, none⟩ = some u0 ∧ w.cell? ⟨p, 1, none⟩ = some u1 ∧ w.cell? ⟨p, 2, none⟩ = some u2 ∧ w.cell? ⟨p, 3, none⟩ = some u3 := by
  obtain ⟨u0, h0⟩ := (h 0 (by omega)).1
  obtain ⟨u1, h1⟩ := (h 1 (by omega)).1
  obtain ⟨u2, h2⟩ := (h 2 (by omega)).1
  obtain ⟨u3, h3⟩ := (h 3 (by omega)).1
  exact ⟨u0, u1, u2, u3, h0, h1, h2, h3⟩
theorem box_put {w : World} {p : Nat} (h : Open4 w p) (a b c d : Int) : Box (put4 w p (.int .i64 a) (.int .i64 b) (.int .i64 c) (.int .i64 d)) p a b c d := put4_at h _ _ _ _
theorem bput4' {B : Nat} {w a : World} {p : Nat} (h : Below B w a) (hp : B ≤ p) (v0 v1 v2 v3 : Value) : Below B w (put4 a p v0 v1 v2 v3) :=
  (((h.setCell hp v0).setCell hp v1).setCell hp v2).setCell hp v3
/-- behind two calls, a variable made somewhere between -/
theorem part3 {wx w4 w5 wf : World} {b : Nat} {p0 p1 p2 p3 : Int}
    (hw : (Below wx.heap.size wx w4 ∧ Below w4.heap.size w4 w5 ∧ b = w5.heap.size ∧ wf = w5.alloc (.cells #[.int .i64 p0, .int .i64 p1, .int .i64 p2, .int .i64 p3] 31)) ∨
      (Below wx.heap.size wx w4 ∧ Below (w4.alloc (.cells #[.int .i64 0, .int .i64 0, .int .i64 0, .int .i64 0] 31)).heap.size (w4.alloc (.cells #[.int .i64 0, .int .i64 0, .int .i64 0, .int .i64 0] 31)) w5 ∧ b = w4.heap.size ∧ wf = put4 w5 b (.int .i64 p0) (.int .i64 p1) (.int .i64 p2) (.int .i64 p3)) ∨
      (Below (wx.alloc (.cells #[.int .i64 0, .int .i64 0, .int .i64 0, .int .i64 0] 31)).heap.size (wx.alloc (.cells #[.int .i64 0, .int .i64 0, .int .i64 0, .int .i64 0] 31)) w4 ∧ Below w4.heap.size w4 w5 ∧ b = wx.heap.size ∧ wf = put4 w5 b (.int .i64 p0) (.int .i64 p1) (.int .i64 p2) (.int .i64 p3))) :
    Below wx.heap.size wx wf ∧ wx.heap.size ≤ b ∧ Box wf b p0 p1 p2 p3 := by
  rcases hw with ⟨h1, h2, rfl, rfl⟩ | ⟨h1, h2, rfl, rfl⟩ | ⟨h1, h2, rfl, rfl⟩
  · exact ⟨balloc (bthen h1 h2) _, (bthen h1 h2).size, Box.new _ _ _ _ _ _⟩
  · exact ⟨bput4' (bthen (balloc h1 _) h2) h1.size _ _ _ _, h1.size, box_put ((open_zero _).below h2) _ _ _ _⟩
  · exact ⟨bput4' (bthen (bthen (balloc (bref _) _) h1) h2) (Nat.le_refl _) _ _ _ _, Nat.le_refl _, box_put (((open_zero _).below h1).below h2) _ _ _ _⟩
/-- the same four cells, laid open -/
abbrev BoxA (w : World) (p : Nat) (a b c d : Int) : Prop := w.cell? ⟨p, 0, none⟩ = some (.int .i64 a) ∧ w.cell? ⟨p, 1, none⟩ = some (.int .i64 b) ∧ w.cell? ⟨p, 2, none⟩ = some (.int .i64 c) ∧ w.cell? ⟨p, 3, none⟩ = some (.int .i64 d)
theorem boxA_below {w w' : World} {p : Nat} {a b c d : Int} (hb : Below w.heap.size w w') (h : BoxA w p a b c d) : BoxA w' p a b c d := Box.below h hb
theorem boxA_put {w : World} {p q : Nat} {a b c d : Int} (hne : p < q) (h : BoxA w p a b c d) (v0 v1 v2 v3 : Value) : BoxA (put4 w q v0 v1 v2 v3) p a b c d := by
  have hg := gput4 (gref w (some q)) (.inr rfl) v0 v1 v2 v3
  exact Box.grown h hg (by simp; omega)
set_option maxRecDepth 100000 in
set_option maxHeartbeats 2000000 in
theorem gtouch_any (w h t u a b c d : Int) (w0 : World) : Calls Try.prog 19 #[.int .i64 w, .int .i64 h, .int .i64 t, .int .i64 u, .agg #[.int .i64 a, .int .i64 b, .int .i64 c, .int .i64 d]] w0 (TouchPost (touchL w h t u a b c d) w0) := by
  rcases hf : fineB w h t u with _ | _
  · have HC := Lib.hid (counts_no hf)
    have HL := Lib.hid (touchL_no (a := a) (b := b) (c := c) (d := d) (.inl hf))
    clear hf
    go_enter Try.func19, Try.ntmps19
    go_wp2_with fail
    refine (count_is HC.out.1 HC.out.2 _).mono ?_; rintro e w' ⟨rfl, rfl⟩
    go_wp2_with fail
    go_ret
    exact (OwnL.nil 0 _).post HL.out (balloc (bref _) _)
  · obtain ⟨p0, p1, p2, p3, hR⟩ : ∃ p0 p1 p2 p3, interR a b c d 0 0 w h = ⟨p0, p1, p2, p3⟩ := ⟨_, _, _, _, rfl⟩
    obtain ⟨C, eC⟩ : ∃ C, colN w h t u = C := ⟨_, rfl⟩
    obtain ⟨R, eR⟩ : ∃ R, rowN w h t u = R := ⟨_, rfl⟩
    have hc := (counts hf).1
    rw [eC] at hc
    have hc0 : (C == 0) = false := by simp; omega
    have HC := Lib.hid eC
    have HR := Lib.hid eR
    have HI := Lib.hid hR
    have HF := Lib.hid hf
    clear eC eR hR hc hf
    go_enter Try.func19, Try.ntmps19
    go_wp2_with fail
    refine (count_is HC.out HR.out _).mono ?_; rintro e w' ⟨rfl, rfl⟩
    go_upto_region 4 with fail
    obtain ⟨wx, ewx⟩ : ∃ wx, w0.alloc (.cells #[.int .i64 a, .int .i64 b, .int .i64 c, .int .i64 d] 31) = wx := ⟨_, rfl⟩
    have hwx := Lib.hid (show Below w0.heap.size w0 wx by rw [← ewx]; exact balloc (bref _) _)
    have hz0 : w0.heap.size < wx.heap.size := by rw [← ewx]; simp
    have hO : BoxA wx.drew w0.heap.size a b c d := by rw [← ewx]; exact Box.new _ _ _ _ _ _
    simp only [ewx]
    clear ewx
    have hqx : Hid (∀ (b : Nat) (wf : World), Below wx.drew.heap.size wx.drew wf ∧ wx.drew.heap.size ≤ b ∧ Box wf b p0 p1 p2 p3 → w0.heap.size ≤ b ∧ Hid (Below w0.heap.size w0 wf ∧ Box wf b p0 p1 p2 p3)) :=
      Lib.hid (fun b wf hh => ⟨Nat.le_trans hwx.out.size hh.2.1, Lib.hid ⟨bthen hwx.out (bthen (bdrewN (bref wx) 1) hh.1), hh.2.2⟩⟩)
    go_cut [13] (fun q wy => ∃ b, q = .pointer (some ⟨b, 0, none⟩) ∧ w0.heap.size ≤ b ∧ Hid (Below w0.heap.size w0 wy ∧ Box wy b p0 p1 p2 p3))
    case first =>
      first | go_must (go_region_held3 (fun w' => BoxA w' w0.heap.size a b c d) ((first | with_reducible exact hO | with_reducible exact boxA_below hb ‹_› | with_reducible exact boxA_below hb5 ‹_› | with_reducible exact boxA_below (balloc (bref _) _) ‹_› | with_reducible exact boxA_below (balloc (bref _) _) hS5.out | with_reducible exact boxA_put hz0 hS5.out _ _ _ _ | with_reducible exact boxA_put hz4 hS5.out _ _ _ _))
        (first
          | (go_at_call 23; refine (whole_is _ _ _).mono ?_; rintro e w4 ⟨rfl, hb⟩)
          | (go_at_call 32; refine (inter_is HI.out _).mono ?_; rintro e w5 ⟨rfl, hb5⟩; have hS5 := Lib.hid (boxA_below hb5 (‹BoxA _ w0.heap.size a b c d›));
              have hz4 : w0.heap.size < w4.heap.size := (by first | exact Nat.lt_of_lt_of_le hz0 hb.size | exact Nat.lt_of_lt_of_le hz0 (Nat.le_of_succ_le (by simpa using hb.size)));
              (first
                | (have hop := Lib.hid (Open4.below (open_zero w4) hb5))
                | (have hop := Lib.hid (show Open4 w5 wx.heap.size from Open4.below (Open4.below (open_zero wx.drew) hb) hb5))
                | (have hop := Lib.hid (open_zero w5)));
              have hcc := open_val hop.out; have hc0 := hcc 0 (by omega); have hc1 := hcc 1 (by omega); have hc2 := hcc 2 (by omega); have hc3 := hcc 3 (by omega); clear hcc;
              have hf0 := (hop.out 0 (by omega)).2; have hf1 := (hop.out 1 (by omega)).2; have hf2 := (hop.out 2 (by omega)).2; have hf3 := (hop.out 3 (by omega)).2))) | skip
      all_goals
        go_wp2_with fail
        go_meet
        first
          | exact ⟨_, rfl, hqx.out _ _ (part3 (.inl ⟨hb, hb5, rfl, rfl⟩))⟩
          | exact ⟨_, rfl, hqx.out _ _ (part3 (.inr (.inl ⟨hb, hb5, rfl, rfl⟩)))⟩
          | exact ⟨_, rfl, hqx.out _ _ (part3 (.inr (.inr ⟨hb, hb5, rfl, rfl⟩)))⟩
    case rest =>
      obtain ⟨q, rfl, hq, hS⟩ := hcut
      clear hwx hqx hz0 hO
      obtain ⟨k0, k1, k2, k3⟩ := hS.out.2
      have hql := hS.out.2.lt
      rcases hx : emptyB p0 p1 p2 p3 with _ | _
      · obtain ⟨Cn, Rn, c0, c1, r0, r1, eC, eR, bC, bR, ec0, ec1, er0, er1, hcc, hcC, hrr, hrR, bp, bq, bt, bu, hT⟩ := touch_at HF.out HI.out hx
        have hx' := Lib.hid hx
        have hT' : Hid (InBox (fun k : Nat => touchB w h t u a b c d k) Cn c0 c1 r0 r1) := Lib.hid hT
        have hL : Hid (touchL w h t u a b c d = upT (fun k : Nat => touchB w h t u a b c d k) (Rn * Cn)) := Lib.hid (by
          unfold touchL; rw [eC, eR, ← Int.natCast_mul, Int.toNat_natCast, Nat.mul_comm])
        obtain rfl : C = Cn := by rw [← HC.out, eC]
        obtain ⟨T, eT⟩ : ∃ T : Nat → Bool, (fun k : Nat => touchB w h t u a b c d k) = T := ⟨_, rfl⟩
        rw [eT] at hT' hL
        clear eT hT hx eC eR HC HR HI HF
        obtain ⟨i0, hi, hi0, hi1, hi2⟩ := info_parts infoI
        have hi' := Lib.hid hi
        have hi0' := Lib.hid hi0
        have hi1' := Lib.hid hi1
        have hi2' := Lib.hid hi2
        clear hi hi0 hi1 hi2
        have Ec0 := Lib.hid ec0
        have Ec1 := Lib.hid ec1
        have Er0 := Lib.hid er0
        have Er1 := Lib.hid er1
        clear ec0 ec1 er0 er1
        have hu0 : ¬ u = 0 := by omega
        have ht0 : ¬ t = 0 := by omega
        go_wp2_with fail
        refine (empty_is hx'.out _).mono ?_; rintro e w5 ⟨rfl, hb⟩
        have HS : Hid (TInv w0 q p0 p1 p2 p3 (.slice none 0 0) (upT T (r0 * Cn)) w5) := Lib.hid ⟨bthen hS.out.1 hb, hS.out.2.below hb, by rw [box_start hT'.out (by omega)]; exact OwnL.nil _ _⟩
        clear hS hb k0 k1 k2 k3 hql
        obtain ⟨k0, k1, k2, k3⟩ := HS.out.2.1
        have hql := HS.out.2.1.lt
        go_wp2_with fail
        clear k0 k1 k2 k3 hql
        go_loopw [14, 15] (fun v i wr => ∃ k : Nat, r0 ≤ k ∧ k ≤ r1 + 1 ∧ i = .int .i64 k ∧ Hid (TInv w0 q p0 p1 p2 p3 v (upT T (k * Cn)) wr)) (fun _ i _ => r1 + 1 - (intOf i).toNat)
        case atStart => exact ⟨r0, by omega, by omega, by rw [Er0.out], HS⟩
        case round =>
          clear HS
          obtain ⟨k, hk0, hk1, rfl, HI⟩ := hrel
          obtain ⟨k0, k1, k2, k3⟩ := HI.out.2.1
          have hql := HI.out.2.1.lt
          by_cases hlt : k < r1 + 1
          · have hle : (k : Int) ≤ (p3 - 1) / u := by rw [Er1.out]; omega
            have HI2 : Hid (TInv w0 q p0 p1 p2 p3 u14 (upT T (k * Cn + c0)) wr) := Lib.hid (by rw [box_row hT'.out hcC hcc]; exact HI.out)
            clear HI
            go_wp2_with fail
            clear k0 k1 k2 k3 hql
            go_loopw [14, 16] (fun v j wr => ∃ m : Nat, c0 ≤ m ∧ m ≤ c1 + 1 ∧ j = .int .i64 m ∧ Hid (TInv w0 q p0 p1 p2 p3 v (upT T (k * Cn + m)) wr)) (fun _ j _ => c1 + 1 - (intOf j).toNat)
            case atStart => exact ⟨c0, by omega, by omega, by rw [Ec0.out], HI2⟩
            case round =>
              clear HI2
              obtain ⟨m, hm0, hm1, rfl, HI⟩ := hrel
              obtain ⟨k0, k1, k2, k3⟩ := HI.out.2.1
              have hql := HI.out.2.1.lt
              by_cases hmt : m < c1 + 1
              · have hme : (m : Int) ≤ (p2 - 1) / t := by rw [Ec1.out]; omega
                obtain ⟨N, eN⟩ : ∃ N, k * Cn = N := ⟨_, rfl⟩
                have hN : (k : Int) * (Cn : Int) = (N : Int) := by rw [← eN, Int.natCast_mul]
                have hN2 : N ≤ 16384 := by rw [← eN]; exact Nat.le_trans (Nat.mul_le_mul (show k ≤ 128 by omega) (show Cn ≤ 128 by omega)) (by decide)
                have HB : Hid (upT T (k * Cn + (m + 1)) = upT T (k * Cn + m) ++ [(N : Int) + m]) := Lib.hid ((box_one (k := k) (m := m) hT'.out hcC hk0 (by omega) hm0 (by omega)).trans (by rw [Int.natCast_add, eN]))
                have hll := upT_len T (k * Cn + m)
                obtain ⟨L, eL⟩ : ∃ L, upT T (k * Cn + m) = L := ⟨_, rfl⟩
                rw [eL] at HI HB hll
                rw [eN] at hll
                have hsz := HI.out.1.size
                clear eL eN
                go_wp2_with (at_builtin; refine wpList_append_lies _ rfl _ _ _ rfl (q + 1) 3 i0 (.int .i64 0) 1 8 Try.underlying29 hi'.out hi0'.out hi1'.out hi2'.out rfl (by decide) u14 L.length (ints L) rfl ((HI.out.step (balloc (bref wr) _)).2.2) ⟨wr.heap.size, 0, none⟩ 1 1 [.int .i64 ((N : Int) + m)] rfl rfl (World.news_of_block (heap_alloc_new wr _)) (by intro u hu; simp at hu; subst hu; rfl) (by decide) (by unfold maxLen; omega) (by omega) (by simp; omega) (wr.heap.size + 1) (by simp) ?_; intro g cap wB hown hgrow hat hlB)
                have HF := Lib.hid ((HI.out.step (balloc (bref wr) _)).app (by omega) hown hgrow)
                go_roundw
                case rel => exact ⟨m + 1, by omega, by omega, by go_num, Lib.hid (by rw [HB.out]; exact HF.out)⟩
                case measure => simp [intOf]; omega
              · obtain rfl : m = c1 + 1 := by omega
                have hme : ¬ ((c1 + 1 : Nat) : Int) ≤ (p2 - 1) / t := by rw [Ec1.out]; omega
                have hme2 : (p2 - 1) / t < ((c1 + 1 : Nat) : Int) := by rw [Ec1.out]; omega
                have HN : Hid (TInv w0 q p0 p1 p2 p3 u14 (upT T ((k + 1) * Cn)) wr) := Lib.hid (by rw [box_next hT'.out hcC]; exact HI.out)
                clear HI
                go_wp2_with fail
                go_roundw
                case rel => exact ⟨k + 1, by omega, by omega, by go_num, HN⟩
                case measure => simp [intOf]; omega
          · obtain rfl : k = r1 + 1 := by omega
            have hme : ¬ ((r1 + 1 : Nat) : Int) ≤ (p3 - 1) / u := by rw [Er1.out]; omega
            have hme2 : (p3 - 1) / u < ((r1 + 1 : Nat) : Int) := by rw [Er1.out]; omega
            go_wp2_with fail
            go_ret
            exact HI.out.2.2.post (by rw [hL.out]; exact box_end hT'.out (by omega) hrR) HI.out.1
      · have HL := Lib.hid (touchL_no (w := w) (h := h) (t := t) (u := u) (a := a) (b := b) (c := c) (d := d) (.inr (by rw [HI.out]; exact hx)))
        have hx' := Lib.hid hx
        clear hx
        go_wp2_with fail
        refine (empty_is hx'.out _).mono ?_; rintro e w5 ⟨rfl, hb⟩
        go_wp2_with fail
        go_ret
        exact (OwnL.nil 0 _).post HL.out (bthen hS.out.1 hb)
end Go.Proofs.Ytpbapamoihkaoaa
