/- The contract of plane.Blit where both planes are valid: the place, and the loop. Rows laid into a plane, as plain lists and as a step of a region. The contract of plane.Blit where both planes are valid: the loop. -/
import Derived.Test.YtpmajophkhihlaaPClone
namespace Go.Proofs.Ytpmajophkhihlaa
open Go.ChangeShapes Go.WideShapes Go.ChangeAt Go.RowKit
set_option linter.unusedVariables false
set_option linter.unusedSimpArgs false

section
variable (W H M : Int) (L : List Int) (a : Option Addr) (cap : Nat) (W2 H2 M2 : Int) (K : List Int) (a2 : Option Addr) (cap2 : Nat) (x y : Int) (w : World)
set_option maxHeartbeats 2000000 in
theorem pblit_4 (hs : SliceIs w a L) (hl : L.length ≤ 9223372036854775807) (hs2 : SliceIs w a2 K) (hl2 : K.length ≤ 9223372036854775807) (hv : planeB W H M L = true) (hv2 : planeB W2 H2 M2 K = true) (hk : topTo K K.length ≤ M) (hp : ¬ placeOk W H W2 H2 x y) :
    Calls Try.prog 14 #[.agg #[.int .i64 W, .int .i64 H, .int .i64 M, .slice a L.length cap], .agg #[.int .i64 W2, .int .i64 H2, .int .i64 M2, .slice a2 K.length cap2], .int .i64 x, .int .i64 y] w (PlanePost W H M (blitO W H M L W2 H2 M2 K x y) w) := by
  have hv' := Lib.hid hv
  have hv2' := Lib.hid hv2
  obtain ⟨⟨c1, c2⟩, ⟨d1, d2⟩, _, _, _⟩ := sizeB_t.1 (planeB_t.1 hv2).1
  have hK1 : 1 ≤ K.length := by have := (planeB_t.1 hv2).2.1; have := (prod_bd c1 c2 d1 d2).1; omega
  have hO := Lib.hid (blit_none (W := W) (H := H) (M := M) (L := L) (W2 := W2) (H2 := H2) (M2 := M2) (K := K) (x := x) (y := y) (.inr (.inr (.inl hp))))
  obtain ⟨⟨wd1, wd2⟩, ⟨h1, h2⟩, _, _, _⟩ := sizeB_t.1 (planeB_t.1 hv).1
  have hp' : x < 0 ∨ (0 ≤ x ∧ x > W - W2) ∨ (0 ≤ x ∧ x ≤ W - W2 ∧ y < 0) ∨ (0 ≤ x ∧ 0 ≤ y ∧ x ≤ W - W2 ∧ y > H - H2) := by unfold placeOk at hp; omega
  have hs' := Lib.hid hs
  have hs2' := Lib.hid hs2
  obtain ⟨top, et⟩ : ∃ top, topTo K K.length = top := ⟨_, rfl⟩
  rw [et] at hk
  have et' := Lib.hid et
  have hd : decide (top > M) = false := by simpa using hk
  clear hv hs hv2 hs2 et hp hk
  go_enter Try.func14, Try.ntmps14
  go_upto_region 1 with fail
  obtain ⟨W3, eW3⟩ : ∃ W3, ((w.alloc (.cells #[.int .i64 W, .int .i64 H, .int .i64 M, .slice a L.length cap] 26)).alloc (.cells #[.int .i64 W2, .int .i64 H2, .int .i64 M2, .slice a2 K.length cap2] 26)).alloc (.cells #[.int .i64 0, .int .i64 0, .int .i64 0, .slice none 0 0] 26) = W3 := ⟨_, rfl⟩
  have hB := balloc (balloc (balloc (bref w) (.cells #[.int .i64 W, .int .i64 H, .int .i64 M, .slice a L.length cap] 26)) (.cells #[.int .i64 W2, .int .i64 H2, .int .i64 M2, .slice a2 K.length cap2] 26)) (.cells #[.int .i64 0, .int .i64 0, .int .i64 0, .slice none 0 0] 26)
  have hS0 := pps_start w W H M (.slice a L.length cap) W2 H2 M2 (.slice a2 K.length cap2) 26 26 (.cells #[.int .i64 0, .int .i64 0, .int .i64 0, .slice none 0 0] 26)
  rw [eW3] at hS0
  have hS : PPS W3 w.heap.size (w.heap.size + 1) W H M (.slice a L.length cap) W2 H2 M2 (.slice a2 K.length cap2) W3.drew := ⟨Lib.hid (bdrew1 hS0.1.out), hS0.2⟩
  have hOp := open3n w (.cells #[.int .i64 W, .int .i64 H, .int .i64 M, .slice a L.length cap] 26) (.cells #[.int .i64 W2, .int .i64 H2, .int .i64 M2, .slice a2 K.length cap2] 26) (.int .i64 0) (.int .i64 0) (.int .i64 0) (.slice none 0 0) 26
  rw [eW3] at hOp hB
  have hz3 : W3.heap.size = w.heap.size + 1 + 1 + 1 := by rw [← eW3]; simp
  simp only [eW3]
  have hs3 := Lib.hid (is_below hs'.out hB)
  have hs23 := Lib.hid (is_below hs2'.out hB)
  clear hS0 eW3
  go_region_held3 (fun w' => PPS W3 w.heap.size (w.heap.size + 1) W H M (.slice a L.length cap) W2 H2 M2 (.slice a2 K.length cap2) w') ((first | exact hS | exact pps_keep hb ‹_› | assumption))
    (first
      | (go_at_call 17; ((with_reducible refine (pvalid_is hv'.out a cap _ (is_below hs3.out (‹PPS W3 w.heap.size (w.heap.size + 1) W H M (.slice a L.length cap) W2 H2 M2 (.slice a2 K.length cap2) _›).1.out) hl).mono ?_); rintro e w1 ⟨rfl, hb⟩))
      | (go_at_call 17; ((with_reducible refine (pvalid_is hv2'.out a2 cap2 _ (is_below hs23.out (‹PPS W3 w.heap.size (w.heap.size + 1) W H M (.slice a L.length cap) W2 H2 M2 (.slice a2 K.length cap2) _›).1.out) hl2).mono ?_); rintro e w1 ⟨rfl, hb⟩))
      | (go_at_call 36; ((with_reducible refine (max_is et'.out a2 cap2 _ (is_below hs23.out (‹PPS W3 w.heap.size (w.heap.size + 1) W H M (.slice a L.length cap) W2 H2 M2 (.slice a2 K.length cap2) _›).1.out) hK1 hl2).mono ?_); rintro e w1 ⟨rfl, rfl⟩)))
  all_goals
    have hE := Lib.hid (show PPS W3 w.heap.size (w.heap.size + 1) W H M (.slice a L.length cap) W2 H2 M2 (.slice a2 K.length cap2) _ from ‹_›).1.out
    have hOp2 := hOp.below hE.out
    have hOp3 := Lib.hid hOp2
    obtain ⟨_, s0, s1, s2, s3, s4, s5, s6, s7⟩ := (show PPS W3 w.heap.size (w.heap.size + 1) W H M (.slice a L.length cap) W2 H2 M2 (.slice a2 K.length cap2) _ from ‹_›)
    obtain ⟨⟨v0, o0, f0⟩, ⟨v1, o1, f1⟩, ⟨v2, o2, f2⟩, ⟨v3, o3, f3⟩⟩ := open_cells hOp2
    have hB' := Lib.hid hB
    clear hOp hOp2 hB hd
    rcases hp' with hp | ⟨hp1, hp⟩ | ⟨hp1, hp2, hp⟩ | ⟨hp1, hp2, hp3, hp⟩
    all_goals
      go_wp2_with fail
      rw [hO.out]
      refine ret_plane2 Try.results14 rfl rfl rfl hOp3.out ⟨bput4 (bthen hB'.out hE.out) (by omega) _ _ _ _, rfl⟩
end
open Go.ChangeShapes Go.WideShapes Go.ChangeAt Go.RowKit
set_option linter.unusedVariables false
set_option linter.unusedSimpArgs false

theorem prow_g (W H M : Int) (g len cap : Nat) (x y : Int) (n F : Nat) (w : World) (hF : y * W + x = F) (hT : y * W = F - x) (x0 : 0 ≤ x) (x1 : x ≤ F) (n1 : 1 ≤ n) (hn : F + n ≤ len) (hc : len ≤ cap) (hm : cap ≤ maxLen) :
    Calls Try.prog 35 #[.agg #[.int .i64 W, .int .i64 H, .int .i64 M, .slice (some ⟨g, 0, none⟩) len cap], .int .i64 x, .int .i64 y, .int .i64 n] w
      fun e w' => e = .returned (.slice (some ⟨g, F, none⟩) n (cap - F)) ∧ Below w.heap.size w w' := by
  have := prow_any W H M g 0 len cap x y n F w hF hT x0 x1 n1 hn hc hm
  rwa [Nat.zero_add] at this
/-- one more row is laid -/
theorem laid_row {W : Int} {L : List Int} {cw : Nat} {K : List Int} {x y : Int} {k F1 F2 : Nat} {R : List Int} (h : Laid W L cw K x y (k * cw) R) (hx : 0 ≤ x) (hy : 0 ≤ y) (hxw : x + cw ≤ W) (hc : 1 ≤ cw)
    (hF2 : k * cw = F2) (hF1 : (y + (k : Int)) * W + x = F1) (hfit : F1 + cw ≤ L.length) (hfit2 : F2 + cw ≤ K.length) : Laid W L cw K x y ((k + 1) * cw) (layL R F1 (rowX K F2 cw)) := by
  obtain ⟨hl, h⟩ := h
  have hXl := rowX_len hfit2
  have hfr : F1 + (rowX K F2 cw).length ≤ R.length := by omega
  refine ⟨by rw [layL_len hfr]; exact hl, fun j hj => ?_⟩
  rw [layL_at hfr, hXl]
  have ek : ((F2 : Nat) : Int) = (k : Int) * cw := by rw [← hF2]; push_cast; rfl
  by_cases hin : F1 ≤ j ∧ j < F1 + cw
  · obtain ⟨u, hu⟩ : ∃ u : Nat, j = F1 + u := ⟨j - F1, by omega⟩
    subst hu
    rw [if_pos hin, rowX_at (by omega)]
    have d1 : ((F1 + u : Nat) : Int) / W = y + k := by
      have : ((F1 + u : Nat) : Int) = (x + u) + (y + k) * W := by push_cast; omega
      rw [this, Int.add_mul_ediv_right _ _ (by omega), Int.ediv_eq_zero_of_lt (by omega) (by omega)]; omega
    have d2 : ((F1 + u : Nat) : Int) % W = x + u := by
      have : ((F1 + u : Nat) : Int) = (x + u) + (y + k) * W := by push_cast; omega
      rw [this, Int.add_mul_emod_self_right]; exact Int.emod_eq_of_lt (by omega) (by omega)
    unfold blitAt
    rw [d1, d2, show y + (k : Int) - y = k by omega, show x + (u : Int) - x = u by omega, ← ek]
    have ec : (((k + 1) * cw : Nat) : Int) = F2 + cw := by rw [Nat.add_one_mul, hF2]; push_cast; rfl
    rw [ec, if_pos (by omega)]
    congr 1
    omega
  · rw [if_neg hin, h j hj]
    unfold blitAt
    have ec : (((k + 1) * cw : Nat) : Int) = F2 + cw := by rw [Nat.add_one_mul, hF2]; push_cast; rfl
    rw [ec, hF2]
    by_cases c : 0 ≤ (j : Int) % W - x ∧ (j : Int) % W - x < cw ∧ 0 ≤ (j : Int) / W - y ∧ ((j : Int) / W - y) * cw + ((j : Int) % W - x) < F2
    · rw [if_pos c, if_pos ⟨c.1, c.2.1, c.2.2.1, by have := c.2.2.2; omega⟩]
    · rw [if_neg c, if_neg]
      rintro ⟨c1, c2, c3, c4⟩
      have c5 : (F2 : Int) ≤ ((j : Int) / W - y) * cw + ((j : Int) % W - x) := by
        apply Classical.byContradiction
        intro hh
        exact c ⟨c1, c2, c3, by omega⟩
      obtain ⟨u, hu⟩ : ∃ u : Int, ((j : Int) / W - y) * cw + ((j : Int) % W - x) = k * cw + u := ⟨((j : Int) / W - y) * cw + ((j : Int) % W - x) - k * cw, by omega⟩
      obtain ⟨q1, q2⟩ := cell_uniq (u := u) (v := k) (by omega) (by omega) c1 c2 hu
      have := Int.emod_add_mul_ediv (j : Int) W
      have a1 : (j : Int) / W = y + k := by omega
      rw [a1, Int.mul_comm] at this
      omega
/-- while a plane is laid into the copy of another one, row by row -/
structure BlP (w : World) (g cap : Nat) (W H M : Int) (W2 H2 M2 : Int) (sl2 : Value) (R : List Int) (w' : World) : Prop where
  blw : Below w.heap.size w w'
  p0 : w'.cell? ⟨w.heap.size, 0, none⟩ = some (.int .i64 W)
  p1 : w'.cell? ⟨w.heap.size, 1, none⟩ = some (.int .i64 H)
  p2 : w'.cell? ⟨w.heap.size, 2, none⟩ = some (.int .i64 M)
  p3 : w'.cell? ⟨w.heap.size, 3, none⟩ = some (.slice (some ⟨g, 0, none⟩) R.length cap)
  q0 : w'.cell? ⟨w.heap.size + 1, 0, none⟩ = some (.int .i64 W2)
  q1 : w'.cell? ⟨w.heap.size + 1, 1, none⟩ = some (.int .i64 H2)
  q2 : w'.cell? ⟨w.heap.size + 1, 2, none⟩ = some (.int .i64 M2)
  q3 : w'.cell? ⟨w.heap.size + 1, 3, none⟩ = some sl2
  op : Open4 w' (w.heap.size + 1 + 1)
  pix : PixAt w.heap.size w' g cap R
  far : ¬ g = w.heap.size ∧ ¬ g = w.heap.size + 1 ∧ ¬ g = w.heap.size + 1 + 1
theorem BlP.below {w : World} {g cap : Nat} {W H M W2 H2 M2 : Int} {sl2 : Value} {R : List Int} {w1 w2 : World} (h : BlP w g cap W H M W2 H2 M2 sl2 R w1) (hb : Below w1.heap.size w1 w2) : BlP w g cap W H M W2 H2 M2 sl2 R w2 :=
  ⟨bthen h.blw hb, bkeep hb h.p0, bkeep hb h.p1, bkeep hb h.p2, bkeep hb h.p3, bkeep hb h.q0, bkeep hb h.q1, bkeep hb h.q2, bkeep hb h.q3, h.op.below hb, h.pix.below hb, h.far⟩
theorem BlP.copied {w : World} {g cap : Nat} {W H M W2 H2 M2 : Int} {sl2 : Value} {R R2 : List Int} {w1 w2 : World} (h : BlP w g cap W H M W2 H2 M2 sl2 R w1) (hg : w1.grownBy w2 (some g)) (hp : PixAt w.heap.size w2 g cap R2) (hl : R2.length = R.length) : BlP w g cap W H M W2 H2 M2 sl2 R2 w2 := by
  obtain ⟨f0, f1, f2⟩ := h.far
  have c : ∀ b o u, ¬ g = b → w1.cell? ⟨b, o, none⟩ = some u → w2.cell? ⟨b, o, none⟩ = some u := fun b o u hne hc => hg.cell hc (by simpa using Ne.symm hne)
  exact ⟨h.blw.grown hg h.blw.size (fun k e => by simp at e; subst e; exact h.pix.lt.1), c _ _ _ f0 h.p0, c _ _ _ f0 h.p1, c _ _ _ f0 h.p2, by rw [hl]; exact c _ _ _ f0 h.p3, c _ _ _ f1 h.q0, c _ _ _ f1 h.q1, c _ _ _ f1 h.q2, c _ _ _ f1 h.q3, h.op.grown hg (by simpa using Ne.symm f2), hp, h.far⟩
abbrev BRowS (w : World) (g cap : Nat) (W H M : Int) (W2 H2 M2 : Int) (sl2 : Value) (N : Nat) (R0 R1 : List Int) (w' : World) : Prop :=
  Hid (∃ R, (R = R0 ∨ R = R1) ∧ R.length = N ∧ BlP w g cap W H M W2 H2 M2 sl2 R w') ∧
    w'.cell? ⟨w.heap.size, 0, none⟩ = some (.int .i64 W) ∧ w'.cell? ⟨w.heap.size, 1, none⟩ = some (.int .i64 H) ∧ w'.cell? ⟨w.heap.size, 2, none⟩ = some (.int .i64 M) ∧ w'.cell? ⟨w.heap.size, 3, none⟩ = some (.slice (some ⟨g, 0, none⟩) N cap) ∧
    w'.cell? ⟨w.heap.size + 1, 0, none⟩ = some (.int .i64 W2) ∧ w'.cell? ⟨w.heap.size + 1, 1, none⟩ = some (.int .i64 H2) ∧ w'.cell? ⟨w.heap.size + 1, 2, none⟩ = some (.int .i64 M2) ∧ w'.cell? ⟨w.heap.size + 1, 3, none⟩ = some sl2
theorem bRowS_of {w : World} {g cap : Nat} {W H M W2 H2 M2 : Int} {sl2 : Value} {N : Nat} {R0 R1 R : List Int} {w' : World} (h : BlP w g cap W H M W2 H2 M2 sl2 R w') (hR : R = R0 ∨ R = R1) (hN : R.length = N) : BRowS w g cap W H M W2 H2 M2 sl2 N R0 R1 w' :=
  ⟨Lib.hid ⟨R, hR, hN, h⟩, h.p0, h.p1, h.p2, by rw [← hN]; exact h.p3, h.q0, h.q1, h.q2, h.q3⟩
theorem bRowS_below {w : World} {g cap : Nat} {W H M W2 H2 M2 : Int} {sl2 : Value} {N : Nat} {R0 R1 : List Int} {w1 w2 : World} (hb : Below w1.heap.size w1 w2) (h : BRowS w g cap W H M W2 H2 M2 sl2 N R0 R1 w1) : BRowS w g cap W H M W2 H2 M2 sl2 N R0 R1 w2 := by
  obtain ⟨R, hR, hN, hS⟩ := h.1.out
  exact bRowS_of (hS.below hb) hR hN
theorem bRowS_drew {w : World} {g cap : Nat} {W H M W2 H2 M2 : Int} {sl2 : Value} {N : Nat} {R0 R1 : List Int} {w1 : World} (h : BRowS w g cap W H M W2 H2 M2 sl2 N R0 R1 w1) : BRowS w g cap W H M W2 H2 M2 sl2 N R0 R1 w1.drew := bRowS_below (bdrewN (bref w1) 1) h
theorem step_copy_blit {ops : Array Oper} {o : Oper} {a : Act} {w1 : World} {KK : Act → World → Prop} {QQ : Exit → Act → World → Prop} {E : Prop} (hgd : o.guard = none) (d s : Operand)
    (ho : o.op = .call { callee := .builtin .copy, args := #[d, s], argTypes := #[22, 22] })
    {w : World} {g cap : Nat} {W H M W2 H2 M2 : Int} {sl2 : Value} {N : Nat} {R0 : List Int} (cw b off F1 F2 : Nat) {dCap sCap : Nat} {K : List Int}
    (hd : a.eval d = .slice (some ⟨g, F1, none⟩) cw dCap) (hs : a.eval s = .slice (some ⟨b, off + F2, none⟩) cw sCap) (hS : BRowS w g cap W H M W2 H2 M2 sl2 N R0 (layL R0 F1 (rowX K F2 cw)) w1)
    (hR0 : R0.length = N) (hfit : F1 + cw ≤ N) (hfit2 : F2 + cw ≤ K.length) (hL : SliceIs w (some ⟨b, off, none⟩) K)
    (h : ∀ w', Hid (BlP w g cap W H M W2 H2 M2 sl2 (layL R0 F1 (rowX K F2 cw)) w') → BRowS w g cap W H M W2 H2 M2 sl2 N R0 (layL R0 F1 (rowX K F2 cw)) w' → KK (a.put o.dst (goInt cw)) w') :
    if Region.wanted o (yielded ops a.tmps) = true then Oper.wp Try.prog o a w1 KK QQ else E := by
  obtain ⟨R, hR, hN, hC⟩ := hS.1.out
  have hXl := rowX_len hfit2
  refine step_copy_pix hgd d s ho w.heap.size g cap R F1 dCap b (off + F2) sCap cw (rowX K F2 cw) hd hs hC.pix hXl (by omega) (fun j hj => ?_) (fun w' hp hg => ?_)
  · rw [rowX_at hj]
    obtain ⟨b', off', e, hc⟩ := (is_below hL hC.blw) (F2 + j) (by omega)
    simp at e
    obtain ⟨rfl, rfl⟩ := e
    rw [Nat.add_assoc]; exact hc
  · have hKe : layL R F1 (rowX K F2 cw) = layL R0 F1 (rowX K F2 cw) := by
      rcases hR with rfl | rfl
      · rfl
      · exact layL_twice (by rw [hXl, hR0]; exact hfit)
    rw [hKe] at hp
    have hl : (layL R0 F1 (rowX K F2 cw)).length = N := by rw [layL_len (by rw [hXl, hR0]; exact hfit)]; exact hR0
    have hC2 := hC.copied hg hp (by omega)
    exact h w' (Lib.hid hC2) (bRowS_of hC2 (.inr rfl) hl)
open Go.ChangeShapes Go.WideShapes Go.ChangeAt Go.RowKit
set_option linter.unusedVariables false
set_option linter.unusedSimpArgs false

set_option maxHeartbeats 4000000 in
theorem pblit_5 (W H M : Int) (L : List Int) (a : Option Addr) (cap : Nat) (W2 H2 M2 : Int) (K : List Int) (a2 : Option Addr) (cap2 : Nat) (x y : Int) (w : World) (hs : SliceIs w a L) (hl : L.length ≤ 9223372036854775807) (hs2 : SliceIs w a2 K) (hl2 : K.length ≤ 9223372036854775807) (hv : planeB W H M L = true) (hv2 : planeB W2 H2 M2 K = true) (hcap : L.length ≤ cap) (hcm : cap ≤ maxLen) (hcap2 : K.length ≤ cap2) (hcm2 : cap2 ≤ maxLen) (hk : topTo K K.length ≤ M) (hp : placeOk W H W2 H2 x y) :
    Calls Try.prog 14 #[.agg #[.int .i64 W, .int .i64 H, .int .i64 M, .slice a L.length cap], .agg #[.int .i64 W2, .int .i64 H2, .int .i64 M2, .slice a2 K.length cap2], .int .i64 x, .int .i64 y] w (PlanePost W H M (blitO W H M L W2 H2 M2 K x y) w) := by
  have hv' := Lib.hid hv
  have hv2' := Lib.hid hv2
  obtain ⟨⟨c1, c2⟩, ⟨d1, d2⟩, _, _, _⟩ := sizeB_t.1 (planeB_t.1 hv2).1
  have hK1 : 1 ≤ K.length := by have := (planeB_t.1 hv2).2.1; have := (prod_bd c1 c2 d1 d2).1; omega
  have hO := Lib.hid (blit_some (x := x) (y := y) hv hv2 hp ((top_under hK1).2 hk))
  obtain ⟨⟨wd1, wd2⟩, ⟨h1, h2⟩, _, _, _⟩ := sizeB_t.1 (planeB_t.1 hv).1
  have hlen := Lib.hid (planeB_t.1 hv).2.1
  have hlp : 1 ≤ L.length := by have := (planeB_t.1 hv).2.1; have := (prod_bd wd1 wd2 h1 h2).1; omega
  have hl4 := plane_len hv
  have hl24 := plane_len hv2
  obtain ⟨cw, rfl⟩ : ∃ cw : Nat, W2 = cw := ⟨W2.toNat, by omega⟩
  obtain ⟨ch, rfl⟩ : ∃ ch : Nat, H2 = ch := ⟨H2.toNat, by omega⟩
  have hlen2 := Lib.hid (show K.length = cw * ch by have := (planeB_t.1 hv2).2.1; exact_mod_cast this)
  obtain ⟨b, off, rfl, _⟩ := slice_some hs2 hK1
  have hcapA := Lib.hid (And.intro (And.intro hcap hcm) (And.intro hcap2 hcm2))
  obtain ⟨g1, g2, g3, g4⟩ := hp
  have hs' := Lib.hid hs
  have hs2' := Lib.hid hs2
  obtain ⟨top, et⟩ : ∃ top, topTo K K.length = top := ⟨_, rfl⟩
  rw [et] at hk
  have et' := Lib.hid et
  have hd : decide (top > M) = false := by simpa using hk
  clear hv hs hv2 hs2 et hk hcap hcm hcap2 hcm2
  go_enter Try.func14, Try.ntmps14
  go_upto_region 1 with fail
  obtain ⟨W3, eW3⟩ : ∃ W3, ((w.alloc (.cells #[.int .i64 W, .int .i64 H, .int .i64 M, .slice a L.length cap] 26)).alloc (.cells #[.int .i64 cw, .int .i64 ch, .int .i64 M2, .slice (some ⟨b, off, none⟩) K.length cap2] 26)).alloc (.cells #[.int .i64 0, .int .i64 0, .int .i64 0, .slice none 0 0] 26) = W3 := ⟨_, rfl⟩
  have hB := balloc (balloc (balloc (bref w) (.cells #[.int .i64 W, .int .i64 H, .int .i64 M, .slice a L.length cap] 26)) (.cells #[.int .i64 cw, .int .i64 ch, .int .i64 M2, .slice (some ⟨b, off, none⟩) K.length cap2] 26)) (.cells #[.int .i64 0, .int .i64 0, .int .i64 0, .slice none 0 0] 26)
  have hS0 := pps_start w W H M (.slice a L.length cap) cw ch M2 (.slice (some ⟨b, off, none⟩) K.length cap2) 26 26 (.cells #[.int .i64 0, .int .i64 0, .int .i64 0, .slice none 0 0] 26)
  rw [eW3] at hS0
  have hS : PPS W3 w.heap.size (w.heap.size + 1) W H M (.slice a L.length cap) cw ch M2 (.slice (some ⟨b, off, none⟩) K.length cap2) W3.drew := ⟨Lib.hid (bdrew1 hS0.1.out), hS0.2⟩
  have hOp := open3n w (.cells #[.int .i64 W, .int .i64 H, .int .i64 M, .slice a L.length cap] 26) (.cells #[.int .i64 cw, .int .i64 ch, .int .i64 M2, .slice (some ⟨b, off, none⟩) K.length cap2] 26) (.int .i64 0) (.int .i64 0) (.int .i64 0) (.slice none 0 0) 26
  rw [eW3] at hOp hB
  have hfz := (Open4.new w (.int .i64 W) (.int .i64 H) (.int .i64 M) (.slice a L.length cap) 26).alloc (.cells #[.int .i64 cw, .int .i64 ch, .int .i64 M2, .slice (some ⟨b, off, none⟩) K.length cap2] 26) |>.alloc (.cells #[.int .i64 0, .int .i64 0, .int .i64 0, .slice none 0 0] 26)
  rw [eW3] at hfz
  replace hfz := Lib.hid hfz
  have hz3 : W3.heap.size = w.heap.size + 1 + 1 + 1 := by rw [← eW3]; simp
  simp only [eW3]
  have hs3 := Lib.hid (is_below hs'.out hB)
  have hs23 := Lib.hid (is_below hs2'.out hB)
  clear hS0 eW3
  go_region_held3 (fun w' => PPS W3 w.heap.size (w.heap.size + 1) W H M (.slice a L.length cap) cw ch M2 (.slice (some ⟨b, off, none⟩) K.length cap2) w') ((first | exact hS | exact pps_keep hb ‹_› | assumption))
    (first
      | (go_at_call 17; ((with_reducible refine (pvalid_is hv'.out a cap _ (is_below hs3.out (‹PPS W3 w.heap.size (w.heap.size + 1) W H M (.slice a L.length cap) cw ch M2 (.slice (some ⟨b, off, none⟩) K.length cap2) _›).1.out) hl).mono ?_); rintro e w1 ⟨rfl, hb⟩))
      | (go_at_call 17; ((with_reducible refine (pvalid_is hv2'.out (some ⟨b, off, none⟩) cap2 _ (is_below hs23.out (‹PPS W3 w.heap.size (w.heap.size + 1) W H M (.slice a L.length cap) cw ch M2 (.slice (some ⟨b, off, none⟩) K.length cap2) _›).1.out) hl2).mono ?_); rintro e w1 ⟨rfl, hb⟩))
      | (go_at_call 36; ((with_reducible refine (max_is et'.out (some ⟨b, off, none⟩) cap2 _ (is_below hs23.out (‹PPS W3 w.heap.size (w.heap.size + 1) W H M (.slice a L.length cap) cw ch M2 (.slice (some ⟨b, off, none⟩) K.length cap2) _›).1.out) hK1 hl2).mono ?_); rintro e w1 ⟨rfl, rfl⟩)))
  have hPS := Lib.hid (show PPS W3 w.heap.size (w.heap.size + 1) W H M (.slice a L.length cap) cw ch M2 (.slice (some ⟨b, off, none⟩) K.length cap2) _ from ‹_›)
  have hE := Lib.hid hPS.out.1.out
  obtain ⟨_, s0, s1, s2, s3, s4, s5, s6, s7⟩ := hPS.out
  have hOp' := Lib.hid (hOp.below hE.out)
  have hB' := Lib.hid hB
  have hfz2 := Lib.hid (hfz.out.below hE.out)
  obtain ⟨⟨_, _, _⟩, ⟨_, _, _⟩, ⟨_, _, _⟩, ⟨vz, oz, fz⟩⟩ := open_cells hfz2.out
  have hwz := hE.out.size
  clear hOp hB hd
  go_wp2_with fail
  refine (clone_any L a cap _ (is_below hs3.out hE.out) hlp (by omega)).mono ?_; rintro e wN ⟨g, gc, rfl, hPix, hb⟩
  have hgl := hPix.lt
  have k3 := bkeep hb s3
  have hfN := (hfz2.out.below hb) 3 (by omega)
  have hf3 := hfN.2
  have hP0 : BlP w g gc W H M cw ch M2 (.slice (some ⟨b, off, none⟩) K.length cap2) L (wN.setCell ⟨w.heap.size, 3, none⟩ (.slice (some ⟨g, 0, none⟩) L.length gc)) := by
    have hg := grown_set wN w.heap.size 3 (.slice (some ⟨g, 0, none⟩) L.length gc)
    have c1 : ∀ o u, wN.cell? ⟨w.heap.size + 1, o, none⟩ = some u → (wN.setCell ⟨w.heap.size, 3, none⟩ (.slice (some ⟨g, 0, none⟩) L.length gc)).cell? ⟨w.heap.size + 1, o, none⟩ = some u := fun o u hc => hg.cell hc (by simp)
    refine ⟨(bthen (bthen hB'.out hE.out) hb).setCell (Nat.le_refl _) _, ?_, ?_, ?_, World.cell?_setCell_same _ _ _ k3, c1 _ _ (bkeep hb s4), c1 _ _ (bkeep hb s5), c1 _ _ (bkeep hb s6), c1 _ _ (bkeep hb s7), (hOp'.out.below hb).set _ _, (hPix.base (by omega)).grown hg (by simp; omega), by omega⟩
    · rw [World.cell?_setCell_other _ _ _ _ (by simp)]; exact bkeep hb s0
    · rw [World.cell?_setCell_other _ _ _ _ (by simp)]; exact bkeep hb s1
    · rw [World.cell?_setCell_other _ _ _ _ (by simp)]; exact bkeep hb s2
  replace hP0 := Lib.hid hP0
  have hgc := Lib.hid hPix.cap
  clear hPix hb s0 s1 s2 s3 s4 s5 s6 s7 hfN
  go_upto_region 6 with fail
  obtain ⟨wS, eS⟩ : ∃ wS, wN.setCell ⟨w.heap.size, 3, none⟩ (.slice (some ⟨g, 0, none⟩) L.length gc) = wS := ⟨_, rfl⟩
  rw [eS] at hP0
  simp only [eS]
  clear eS k3 hf3
  have q1 := hP0.out.q1
  go_wp2_with fail
  clear q1
  go_loopw [59] (fun vv wr => ∃ (k : Nat) (R : List Int), k ≤ ch ∧ vv = .int .i64 k ∧ Hid (Laid W L cw K x y (k * cw) R) ∧ Hid (BlP w g gc W H M cw ch M2 (.slice (some ⟨b, off, none⟩) K.length cap2) R wr)) (fun vv _ => ch - (intOf vv).toNat)
  case atStart => exact ⟨0, L, by omega, rfl, Lib.hid (by rw [Nat.zero_mul]; exact laid_zero (by omega)), hP0⟩
  case round =>
    clear hP0
    obtain ⟨k, R, hk, rfl, hK, hS2⟩ := hrel
    by_cases hlt : k < ch
    · have hkI : (k : Int) < ch := by omega
      obtain ⟨t0, t1⟩ := place_bd (W := W) (H := H) (k := y + k) (i := x + (cw - 1 : Nat)) (by omega) (by omega) (by omega) (by omega)
      obtain ⟨T, eT⟩ : ∃ T, (y + (k : Int)) * W = T := ⟨_, rfl⟩
      rw [eT] at t0 t1
      obtain ⟨F1, eF1⟩ : ∃ F1 : Nat, T + x = F1 := ⟨(T + x).toNat, by omega⟩
      have hfitL : F1 + cw ≤ L.length := by have := hlen.out; omega
      have hkc : k * cw + cw ≤ cw * ch := by
        have h1 : (k + 1) * cw ≤ ch * cw := Nat.mul_le_mul_right _ (by omega)
        rw [Nat.add_one_mul] at h1
        rw [Nat.mul_comm cw ch]; omega
      obtain ⟨F2, eF2⟩ : ∃ F2, k * cw = F2 := ⟨_, rfl⟩
      have hfit2 : F2 + cw ≤ K.length := by rw [hlen2.out, ← eF2]; exact hkc
      have hRl := hK.out.1
      have hLd := Lib.hid (laid_row hK.out g1 g2 (by omega) (by omega) eF2 (by rw [eT]; exact eF1) hfitL hfit2)
      have hR0 : BRowS w g gc W H M cw ch M2 (.slice (some ⟨b, off, none⟩) K.length cap2) L.length R (layL R F1 (rowX K F2 cw)) wr.drew := bRowS_drew (bRowS_of hS2.out (.inl rfl) hRl)
      have hrow1 := Lib.hid (fun w => prow_g W H M g L.length gc x (y + k) cw F1 w (by rw [eT]; exact eF1) (by rw [eT]; omega) (by omega) (by omega) (by omega) hfitL hgc.out.1 hgc.out.2)
      have hrow2 := Lib.hid (fun w => prow_any cw ch M2 b off K.length cap2 0 k cw F2 w (by rw [← eF2]; push_cast; omega) (by rw [← eF2]; push_cast; omega) (by omega) (by omega) (by omega) hfit2 hcapA.out.2.1 hcapA.out.2.2)
      have hRl' := Lib.hid hRl
      clear eT eF1 eF2 t0 t1 hkc hRl
      have e1 : IntKind.i64.wrap (y + (k : Int)) = y + k := IntWalk.i64_in _ (by omega)
      go_upto_region 9 with fail
      go_region_held3 (fun w' => BRowS w g gc W H M cw ch M2 (.slice (some ⟨b, off, none⟩) K.length cap2) L.length R (layL R F1 (rowX K F2 cw)) w') ((first | exact hR0 | exact hR2 | exact bRowS_below hb ‹_›))
        (first
          | (go_at_call 35; (with_reducible refine (hrow1.out _).mono ?_); rintro e w1 ⟨rfl, hb⟩)
          | (go_at_call 35; (with_reducible refine (hrow2.out _).mono ?_); rintro e w1 ⟨rfl, hb⟩)
          | (refine step_copy_blit rfl (.tmp 69) (.tmp 74) rfl cw b off F1 F2 (dCap := gc - F1) (sCap := cap2 - F2) (K := K) (g := g) (by simp [Act.eval, Act.put]) (by simp [Act.eval, Act.put]) (‹BRowS w g gc W H M cw ch M2 (.slice (some ⟨b, off, none⟩) K.length cap2) L.length R (layL R F1 (rowX K F2 cw)) _›) hRl'.out hfitL hfit2 hs2'.out ?_; intro w4 hfin hR2))
      all_goals
        go_wp2_with fail
        go_roundw
        case rel => exact ⟨k + 1, _, by omega, by go_num, hLd, hfin⟩
        case measure => simp [intOf]; omega
    · obtain rfl : k = ch := by omega
      have hR := Lib.hid (laid_done (by rw [hlen2.out, Nat.mul_comm]; exact hK.out))
      obtain ⟨p0, p1, p2, p3⟩ := And.intro hS2.out.p0 (And.intro hS2.out.p1 (And.intro hS2.out.p2 hS2.out.p3))
      obtain ⟨⟨v0, o0, f0⟩, ⟨v1, o1, f1⟩, ⟨v2, o2, f2⟩, ⟨v3, o3, f3⟩⟩ := open_cells hS2.out.op
      go_wp2_with fail
      rw [hO.out]
      refine ret_plane2 Try.results14 rfl rfl rfl hS2.out.op ⟨bput4 hS2.out.blw (by omega) _ _ _ _, g, gc, ?_, ?_⟩
      · rw [← hR.out]; rfl
      · rw [← hR.out]
        exact hS2.out.pix.grown (gput4 (gref _ (some (w.heap.size + 1 + 1))) (.inr rfl) _ _ _ _) (by simpa using hS2.out.far.2.2)
theorem pblit_any (W H M : Int) (L : List Int) (a : Option Addr) (cap : Nat) (W2 H2 M2 : Int) (K : List Int) (a2 : Option Addr) (cap2 : Nat) (x y : Int) (w : World) (hs : SliceIs w a L) (hs2 : SliceIs w a2 K) (hcap : L.length ≤ cap) (hcm : cap ≤ maxLen) (hcap2 : K.length ≤ cap2) (hcm2 : cap2 ≤ maxLen) :
    Calls Try.prog 14 #[.agg #[.int .i64 W, .int .i64 H, .int .i64 M, .slice a L.length cap], .agg #[.int .i64 W2, .int .i64 H2, .int .i64 M2, .slice a2 K.length cap2], .int .i64 x, .int .i64 y] w (PlanePost W H M (blitO W H M L W2 H2 M2 K x y) w) := by
  have hl : L.length ≤ 9223372036854775807 := by unfold maxLen at hcm; omega
  have hl2 : K.length ≤ 9223372036854775807 := by unfold maxLen at hcm2; omega
  rcases hv : planeB W H M L with _ | _
  · exact pblit_1 W H M L a cap W2 H2 M2 K a2 cap2 x y w hs hl hv
  rcases hv2 : planeB W2 H2 M2 K with _ | _
  · exact pblit_2 W H M L a cap W2 H2 M2 K a2 cap2 x y w hs hl hs2 hl2 hv hv2
  by_cases hk : topTo K K.length ≤ M
  · by_cases hp : placeOk W H W2 H2 x y
    · exact pblit_5 W H M L a cap W2 H2 M2 K a2 cap2 x y w hs hl hs2 hl2 hv hv2 hcap hcm hcap2 hcm2 hk hp
    · exact pblit_4 W H M L a cap W2 H2 M2 K a2 cap2 x y w hs hl hs2 hl2 hv hv2 hk hp
  · exact pblit_3 W H M L a cap W2 H2 M2 K a2 cap2 x y w hs hl hs2 hl2 hv hv2 (by omega)
end Go.Proofs.Ytpmajophkhihlaa
