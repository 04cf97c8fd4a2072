/- The contract of plane.Crop: what stays false, and the copied rows as plain lists. The contract of plane.Crop. -/
import Derived.Test.YtpmajophkhihlaaPRowC
import Derived.Test.YtpmajophkhihlaaPRCropB
import Derived.Test.YtpmajophkhihlaaRIn
namespace Go.Proofs.Ytpmajophkhihlaa
open Go.ChangeShapes Go.WideShapes Go.ChangeAt Go.RowKit
set_option linter.unusedVariables false
set_option linter.unusedSimpArgs false

theorem empty_is {a b c d : Int} {v : Bool} (h : emptyB a b c d = v) (w : World) : Calls Try.prog 33 #[.agg #[.int .i64 a, .int .i64 b, .int .i64 c, .int .i64 d]] w (TestPost v w) := h ▸ empty_any a b c d w
theorem inside_is {a b c d e f g h : Int} {v : Bool} (hh : insideB a b c d e f g h = v) (w : World) : Calls Try.prog 34 #[.agg #[.int .i64 a, .int .i64 b, .int .i64 c, .int .i64 d], .agg #[.int .i64 e, .int .i64 f, .int .i64 g, .int .i64 h]] w (TestPost v w) := hh ▸ inside_any a b c d e f g h w
theorem pnew_is {cw ch : Nat} {M : Int} (h : sizeB cw ch M = true) (w : World) : Calls Try.prog 23 #[.int .i64 cw, .int .i64 ch, .int .i64 M] w
    fun e w' => ∃ g cap, e = .returned (.tuple #[pv cw ch M g (cw * ch) cap, .bool true]) ∧ PixAt w.heap.size w' g cap (List.replicate (cw * ch) 0) ∧ Below w.heap.size w w' := by
  have := pnew_any cw ch M w
  unfold newO PlanePost at this
  rw [if_pos h] at this
  have e : ((cw : Int) * (ch : Int)).toNat = cw * ch := by exact_mod_cast rfl
  rw [e] at this
  refine this.mono fun e w' ⟨hb, g, cap, he, hp⟩ => ⟨g, cap, ?_, hp, hb⟩
  simpa using he
theorem PixAt.cap {base : Nat} {w : World} {g cap : Nat} {L : List Int} (h : PixAt base w g cap L) : L.length ≤ cap ∧ cap ≤ maxLen := by
  obtain ⟨hl, hh⟩ := h
  rcases hh with ⟨h, _⟩ | ⟨g', cap', cur, hv, hb, hg, h1, h2, h3, h4⟩
  · simp at h
  · simp at hv
    obtain ⟨rfl, rfl⟩ := hv
    exact ⟨h1, h2⟩
theorem CropS.below {W3 : World} {B Q g cap : Nat} {W H M : Int} {sl : Value} {x0 y0 x1 y1 : Int} {cw ch : Nat} {K : List Int} {w1 w2 : World} (h : CropS W3 B Q g cap W H M sl x0 y0 x1 y1 cw ch K w1) (hb : Below w1.heap.size w1 w2) :
    CropS W3 B Q g cap W H M sl x0 y0 x1 y1 cw ch K w2 :=
  ⟨prs_keep hb h.prs, bkeep hb h.q0, bkeep hb h.q1, bkeep hb h.q2, bkeep hb h.q3, h.op.below hb, h.pix.below hb, h.far⟩
theorem CropS.copied {W3 : World} {B Q g cap : Nat} {W H M : Int} {sl : Value} {x0 y0 x1 y1 : Int} {cw ch : Nat} {K K2 : List Int} {w1 w2 : World} (h : CropS W3 B Q g cap W H M sl x0 y0 x1 y1 cw ch K w1) (hg : w1.grownBy w2 (some g)) (hp : PixAt W3.heap.size w2 g cap K2) (hl : K2.length = K.length) :
    CropS W3 B Q g cap W H M sl x0 y0 x1 y1 cw ch K2 w2 := by
  obtain ⟨h0, h1, h2, h3, h4, h5, h6, h7, h8⟩ := h.prs
  obtain ⟨f0, f1, f2, f3⟩ := h.far
  have c : ∀ b o u, ¬ g = b → w1.cell? ⟨b, o, none⟩ = some u → w2.cell? ⟨b, o, none⟩ = some u := fun b o u hne hc => hg.cell hc (by simpa using Ne.symm hne)
  refine ⟨⟨Lib.hid (h0.out.grown hg h0.out.size (fun k e => by simp at e; subst e; exact h.pix.lt.1)), c _ _ _ f0 h1, c _ _ _ f0 h2, c _ _ _ f0 h3, c _ _ _ f0 h4, c _ _ _ f1 h5, c _ _ _ f1 h6, c _ _ _ f1 h7, c _ _ _ f1 h8⟩, c _ _ _ f3 h.q0, c _ _ _ f3 h.q1, c _ _ _ f3 h.q2, ?_, h.op.grown hg (by simpa using Ne.symm f2), hp, h.far⟩
  rw [hl]; exact c _ _ _ f3 h.q3
/-- while a row is copied: the planes' and the rectangle's cells, and hidden all the rest -/
abbrev RowS (W3 : World) (B Q g cap : Nat) (W H M : Int) (sl : Value) (x0 y0 x1 y1 : Int) (cw ch N : Nat) (K0 K1 : List Int) (w' : World) : Prop :=
  Hid (∃ K, (K = K0 ∨ K = K1) ∧ K.length = N ∧ CropS W3 B Q g cap W H M sl x0 y0 x1 y1 cw ch K w') ∧
    w'.cell? ⟨B, 0, none⟩ = some (.int .i64 W) ∧ w'.cell? ⟨B, 1, none⟩ = some (.int .i64 H) ∧ w'.cell? ⟨B, 2, none⟩ = some (.int .i64 M) ∧ w'.cell? ⟨B, 3, none⟩ = some sl ∧
    w'.cell? ⟨B + 1, 0, none⟩ = some (.int .i64 x0) ∧ w'.cell? ⟨B + 1, 1, none⟩ = some (.int .i64 y0) ∧
    w'.cell? ⟨Q, 0, none⟩ = some (.int .i64 cw) ∧ w'.cell? ⟨Q, 1, none⟩ = some (.int .i64 ch) ∧ w'.cell? ⟨Q, 2, none⟩ = some (.int .i64 M) ∧ w'.cell? ⟨Q, 3, none⟩ = some (.slice (some ⟨g, 0, none⟩) N cap)
theorem rowS_of {W3 : World} {B Q g cap : Nat} {W H M : Int} {sl : Value} {x0 y0 x1 y1 : Int} {cw ch N : Nat} {K0 K1 K : List Int} {w' : World} (h : CropS W3 B Q g cap W H M sl x0 y0 x1 y1 cw ch K w') (hK : K = K0 ∨ K = K1) (hN : K.length = N) : RowS W3 B Q g cap W H M sl x0 y0 x1 y1 cw ch N K0 K1 w' := by
  obtain ⟨h0, h1, h2, h3, h4, h5, h6, h7, h8⟩ := h.prs
  exact ⟨Lib.hid ⟨K, hK, hN, h⟩, h1, h2, h3, h4, h5, h6, h.q0, h.q1, h.q2, by rw [← hN]; exact h.q3⟩
theorem rowS_below {W3 : World} {B Q g cap : Nat} {W H M : Int} {sl : Value} {x0 y0 x1 y1 : Int} {cw ch N : Nat} {K0 K1 : List Int} {w1 w2 : World} (hb : Below w1.heap.size w1 w2) (h : RowS W3 B Q g cap W H M sl x0 y0 x1 y1 cw ch N K0 K1 w1) : RowS W3 B Q g cap W H M sl x0 y0 x1 y1 cw ch N K0 K1 w2 := by
  obtain ⟨K, hK, hN, hS⟩ := h.1.out
  exact rowS_of (hS.below hb) hK hN
theorem rowS_drew {W3 : World} {B Q g cap : Nat} {W H M : Int} {sl : Value} {x0 y0 x1 y1 : Int} {cw ch N : Nat} {K0 K1 : List Int} {w1 : World} (h : RowS W3 B Q g cap W H M sl x0 y0 x1 y1 cw ch N K0 K1 w1) : RowS W3 B Q g cap W H M sl x0 y0 x1 y1 cw ch N K0 K1 w1.drew := rowS_below (bdrewN (bref w1) 1) h
theorem layL_twice {K : List Int} {off : Nat} {X : List Int} (h : off + X.length ≤ K.length) : layL (layL K off X) off X = layL K off X := by
  have h2 : off + X.length ≤ (layL K off X).length := by rw [layL_len h]; exact h
  apply List.ext_getElem
  · rw [layL_len h2]
  · intro j h1 h3
    have e := layL_at h2 j
    rw [layL_at h j] at e
    have e' : (layL K off X).getD j 0 = if off ≤ j ∧ j < off + X.length then X.getD (j - off) 0 else K.getD j 0 := layL_at h j
    simp only [List.getD_eq_getElem?_getD, List.getElem?_eq_getElem h1, List.getElem?_eq_getElem h3, Option.getD_some] at e e'
    rw [e, e']
    split <;> rfl
/-- the row of a crop: what is copied -/
def rowX (L : List Int) (F n : Nat) : List Int := (L.drop F).take n
theorem rowX_len {L : List Int} {F n : Nat} (h : F + n ≤ L.length) : (rowX L F n).length = n := by simp [rowX]; omega
theorem rowX_at {L : List Int} {F n j : Nat} (hj : j < n) : (rowX L F n).getD j 0 = L.getD (F + j) 0 := by
  simp [rowX, List.getD_eq_getElem?_getD, List.getElem?_take_of_lt hj]
theorem step_copy_crop {ops : Array Oper} {o : Oper} {a : Act} {w : World} {KK : Act → World → Prop} {QQ : Exit → Act → World → Prop} {E : Prop} (hgd : o.guard = none) (d s : Operand)
    (ho : o.op = .call { callee := .builtin .copy, args := #[d, s], argTypes := #[22, 22] })
    {W3 : World} {B Q g cap : Nat} {W H M : Int} {sl : Value} {x0 y0 x1 y1 : Int} {cw ch N : Nat} {K0 : List Int} (b off F1 F2 : Nat) {dCap sCap : Nat} {L : List Int}
    (hd : a.eval d = .slice (some ⟨g, F1, none⟩) cw dCap) (hs : a.eval s = .slice (some ⟨b, off + F2, none⟩) cw sCap) (hS : RowS W3 B Q g cap W H M sl x0 y0 x1 y1 cw ch N K0 (layL K0 F1 (rowX L F2 cw)) w)
    (hK0 : K0.length = N) (hfit : F1 + cw ≤ N) (hfit2 : F2 + cw ≤ L.length) (hL : SliceIs W3 (some ⟨b, off, none⟩) L)
    (h : ∀ w', Hid (CropS W3 B Q g cap W H M sl x0 y0 x1 y1 cw ch (layL K0 F1 (rowX L F2 cw)) w') → RowS W3 B Q g cap W H M sl x0 y0 x1 y1 cw ch N K0 (layL K0 F1 (rowX L F2 cw)) w' → KK (a.put o.dst (goInt cw)) w') :
    if Region.wanted o (yielded ops a.tmps) = true then Oper.wp Try.prog o a w KK QQ else E := by
  obtain ⟨K, hK, hN, hC⟩ := hS.1.out
  have hXl := rowX_len hfit2
  refine step_copy_pix hgd d s ho W3.heap.size g cap K F1 dCap b (off + F2) sCap cw (rowX L F2 cw) hd hs hC.pix hXl (by omega) (fun j hj => ?_) (fun w' hp hg => ?_)
  · rw [rowX_at hj]
    obtain ⟨b', off', e, hc⟩ := (is_below hL hC.prs.1.out) (F2 + j) (by omega)
    simp at e
    obtain ⟨rfl, rfl⟩ := e
    rw [Nat.add_assoc]; exact hc
  · have hKe : layL K F1 (rowX L F2 cw) = layL K0 F1 (rowX L F2 cw) := by
      rcases hK with rfl | rfl
      · rfl
      · exact layL_twice (by rw [hXl, hK0]; exact hfit)
    rw [hKe] at hp
    have hl : (layL K0 F1 (rowX L F2 cw)).length = N := by rw [layL_len (by rw [hXl, hK0]; exact hfit)]; exact hK0
    have hC2 := hC.copied hg hp (by omega)
    exact h w' (Lib.hid hC2) (rowS_of hC2 (.inr rfl) hl)
/-- one more row of a crop is laid -/
theorem agree_row {K C L : List Int} {W x0 y0 : Int} {k cw F1 F2 : Nat} (h : Agree K C (k * cw)) (hF1 : k * cw = F1) (hfit : F1 + cw ≤ K.length) (hF2 : (y0 + (k : Int)) * W + x0 = F2) (hfit2 : F2 + cw ≤ L.length)
    (hC : ∀ j, j < F1 + cw → C.getD j 0 = cropAt W L x0 y0 cw j) : Agree (layL K F1 (rowX L F2 cw)) C ((k + 1) * cw) := by
  intro j hj
  rw [Nat.add_one_mul, hF1] at hj
  have hXl := rowX_len hfit2
  rw [layL_at (by rw [hXl]; exact hfit), hXl]
  by_cases hk : j < F1
  · rw [if_neg (by omega)]; exact h j (by rw [hF1]; exact hk)
  · rw [if_pos (by omega), rowX_at (by omega), hC j hj]
    obtain ⟨x, hx⟩ : ∃ x : Nat, j = F1 + x := ⟨j - F1, by omega⟩
    subst hx
    have e1 : ((F1 + x : Nat) : Int) = (k : Int) * cw + x := by rw [← hF1]; push_cast; rfl
    rw [cropAt_place (y := k) (x := x) (by omega) e1]
    have e2 : (y0 + (k : Int)) * W + (x0 + (x : Int)) = ((F2 + x : Nat) : Int) := by push_cast; omega
    rw [e2]
    congr 1
    omega
open Go.ChangeShapes Go.WideShapes Go.ChangeAt Go.RowKit
set_option linter.unusedVariables false
set_option linter.unusedSimpArgs false

set_option maxHeartbeats 2000000 in
theorem pcrop_1 (W H M : Int) (L : List Int) (a : Option Addr) (cap : Nat) (x0 y0 x1 y1 : Int) (w : World) (hs : SliceIs w a L) (hl : L.length ≤ 9223372036854775807) (hk : ¬ cropOk W H M L x0 y0 x1 y1) :
    Calls Try.prog 13 #[.agg #[.int .i64 W, .int .i64 H, .int .i64 M, .slice a L.length cap], .agg #[.int .i64 x0, .int .i64 y0, .int .i64 x1, .int .i64 y1]] w (PlanePost (x1 - x0) (y1 - y0) M (cropO W H M L x0 y0 x1 y1) w) := by
  have hO := Lib.hid (show cropO W H M L x0 y0 x1 y1 = none from if_neg hk)
  have hs' := Lib.hid (is_below hs (balloc (balloc (balloc (bref w) (.cells #[.int .i64 W, .int .i64 H, .int .i64 M, .slice a L.length cap] 26)) (.cells #[.int .i64 x0, .int .i64 y0, .int .i64 x1, .int .i64 y1] 31)) (.cells #[.int .i64 0, .int .i64 0, .int .i64 0, .slice none 0 0] 26)))
  have hk' : planeB W H M L = false ∨ (planeB W H M L = true ∧ emptyB x0 y0 x1 y1 = true) ∨ (planeB W H M L = true ∧ emptyB x0 y0 x1 y1 = false ∧ insideB x0 y0 x1 y1 0 0 W H = false) := by
    unfold cropOk at hk
    rcases h1 : planeB W H M L with _ | _ <;> rcases h2 : emptyB x0 y0 x1 y1 with _ | _ <;> rcases h3 : insideB x0 y0 x1 y1 0 0 W H with _ | _ <;> simp_all
  clear hk hs
  rcases hk' with hv | ⟨hv, he⟩ | ⟨hv, he, hi⟩
  · have hv' := Lib.hid hv
    clear hv
    go_enter Try.func13, Try.ntmps13
    go_wp2_with fail
    refine (pvalid_is hv'.out _ _ _ hs'.out hl).mono ?_; rintro e w1 ⟨rfl, hb⟩
    obtain ⟨hc, hf⟩ := bcell hb
    obtain ⟨z0, z1, z2, _⟩ := sz3 hb
    have hOp : Open4 w1 (w.heap.size + 1 + 1) := Open4.below (open3n w _ _ _ _ _ _ _) hb
    go_wp2_with fail
    rw [hO.out]
    refine ret_plane2 Try.results13 rfl rfl rfl hOp ⟨bput4 (bthen (balloc (balloc (balloc (bref w) _) _) _) hb) (by omega) _ _ _ _, rfl⟩
  · have hv' := Lib.hid hv
    have he' := Lib.hid he
    clear hv he
    go_enter Try.func13, Try.ntmps13
    go_wp2_with fail
    refine (pvalid_is hv'.out _ _ _ hs'.out hl).mono ?_; rintro e w1 ⟨rfl, hb⟩
    obtain ⟨hc, hf⟩ := bcell hb
    obtain ⟨z0, z1, z2, _⟩ := sz3 hb
    have hOp : Open4 w1 (w.heap.size + 1 + 1) := Open4.below (open3n w _ _ _ _ _ _ _) hb
    have hOp' := Lib.hid hOp
    have hB := Lib.hid (bthen (balloc (balloc (balloc (bref w) _) _) _) hb)
    clear hOp
    go_wp2_with fail
    refine (empty_is he'.out _).mono ?_; rintro e w2 ⟨rfl, hb2⟩
    obtain ⟨hc2, hf2⟩ := bcell hb2
    have y2 := bmore hb2 z2
    go_wp2_with fail
    rw [hO.out]
    refine ret_plane2 Try.results13 rfl rfl rfl (hOp'.out.below hb2) ⟨bput4 (bthen hB.out hb2) (by omega) _ _ _ _, rfl⟩
  · have hv' := Lib.hid hv
    have he' := Lib.hid he
    have hi' := Lib.hid hi
    clear hv he hi
    go_enter Try.func13, Try.ntmps13
    go_wp2_with fail
    refine (pvalid_is hv'.out _ _ _ hs'.out hl).mono ?_; rintro e w1 ⟨rfl, hb⟩
    obtain ⟨hc, hf⟩ := bcell hb
    obtain ⟨z0, z1, z2, _⟩ := sz3 hb
    have hOp : Open4 w1 (w.heap.size + 1 + 1) := Open4.below (open3n w _ _ _ _ _ _ _) hb
    have hOp' := Lib.hid hOp
    have hB := Lib.hid (bthen (balloc (balloc (balloc (bref w) _) _) _) hb)
    clear hOp
    go_wp2_with fail
    refine (empty_is he'.out _).mono ?_; rintro e w2 ⟨rfl, hb2⟩
    obtain ⟨hc2, hf2⟩ := bcell hb2
    have y0 := bmore hb2 z0
    have y1 := bmore hb2 z1
    have y2 := bmore hb2 z2
    go_wp2_with fail
    refine (inside_is hi'.out _).mono ?_; rintro e w3 ⟨rfl, hb3⟩
    obtain ⟨hc3, hf3⟩ := bcell hb3
    have v2 := bmore hb3 y2
    go_wp2_with fail
    rw [hO.out]
    refine ret_plane2 Try.results13 rfl rfl rfl ((hOp'.out.below hb2).below hb3) ⟨bput4 (bthen (bthen hB.out hb2) hb3) (by omega) _ _ _ _, rfl⟩
theorem prow_0 (W H M : Int) (g len cap : Nat) (y : Int) (n F : Nat) (w : World) (hF : y * W = F) (n1 : 1 ≤ n) (hn : F + n ≤ len) (hc : len ≤ cap) (hm : cap ≤ maxLen) :
    Calls Try.prog 35 #[.agg #[.int .i64 W, .int .i64 H, .int .i64 M, .slice (some ⟨g, 0, none⟩) len cap], .int .i64 0, .int .i64 y, .int .i64 n] w
      fun e w' => e = .returned (.slice (some ⟨g, F, none⟩) n (cap - F)) ∧ Below w.heap.size w w' := by
  have := prow_any W H M g 0 len cap 0 y n F w (by omega) (by omega) (by omega) (by omega) n1 hn hc hm
  rwa [Nat.zero_add] at this
set_option maxHeartbeats 4000000 in
theorem pcrop_2 (W H M : Int) (L : List Int) (a : Option Addr) (cap : Nat) (x0 y0 x1 y1 : Int) (w : World) (hs : SliceIs w a L) (hcap : L.length ≤ cap) (hcm : cap ≤ maxLen) (hk : cropOk W H M L x0 y0 x1 y1) :
    Calls Try.prog 13 #[.agg #[.int .i64 W, .int .i64 H, .int .i64 M, .slice a L.length cap], .agg #[.int .i64 x0, .int .i64 y0, .int .i64 x1, .int .i64 y1]] w (PlanePost (x1 - x0) (y1 - y0) M (cropO W H M L x0 y0 x1 y1) w) := by
  have hv' := Lib.hid hk.1
  have he' := Lib.hid hk.2.1
  have hi' := Lib.hid hk.2.2
  have hO := Lib.hid (show cropO W H M L x0 y0 x1 y1 = some (cropL W L x0 y0 x1 y1) from if_pos hk)
  obtain ⟨⟨a0, a1, a2⟩, b0, b1, b2⟩ := cropOk_bd hk
  obtain ⟨hsz, hlen, _⟩ := planeB_t.1 hk.1
  obtain ⟨⟨w1, w2⟩, ⟨h1, h2⟩, hp, m1, m2⟩ := sizeB_t.1 hsz
  have hlen' := Lib.hid hlen
  have hs' := Lib.hid hs
  obtain ⟨cw, hcw⟩ : ∃ cw : Nat, x1 - x0 = cw := ⟨(x1 - x0).toNat, by omega⟩
  obtain ⟨ch, hch⟩ : ∃ ch : Nat, y1 - y0 = ch := ⟨(y1 - y0).toNat, by omega⟩
  have hz := Lib.hid (show sizeB cw ch M = true by rw [← hcw, ← hch]; exact cropOk_size hk)
  obtain ⟨C, hC⟩ : ∃ C, cropL W L x0 y0 x1 y1 = C := ⟨_, rfl⟩
  have hCl : C.length = cw * ch := by rw [← hC, cropL_len, hcw, hch]; exact_mod_cast rfl
  have hCa := Lib.hid (show ∀ j, j < cw * ch → C.getD j 0 = cropAt W L x0 y0 cw j from fun j hj => by
    rw [← hC, ← hcw]; refine cropL_at ?_; rw [hcw, hch]; exact_mod_cast hj)
  rw [hC] at hO
  have hl4 : L.length ≤ 4096 := plane_len hk.1
  have hcc : cw * ch ≤ 4096 := by
    have h := (sizeB_t.1 hz.out).2.2.1
    have e : ((cw : Int) * (ch : Int)) = ((cw * ch : Nat) : Int) := by push_cast; rfl
    rw [e] at h; omega
  have hCl' := Lib.hid hCl
  have hl1 : 1 ≤ L.length := by have := (prod_bd w1 w2 h1 h2).1; omega
  obtain ⟨b, off, rfl, _⟩ := slice_some hs hl1
  have hcap' := Lib.hid (And.intro hcap hcm)
  clear hk hs hsz hlen hp hC hCl hcap hcm
  go_enter Try.func13, Try.ntmps13
  go_wp2_with fail
  obtain ⟨W3, eW3⟩ : ∃ W3, ((w.alloc (.cells #[.int .i64 W, .int .i64 H, .int .i64 M, .slice (some ⟨b, off, none⟩) L.length cap] 26)).alloc (.cells #[.int .i64 x0, .int .i64 y0, .int .i64 x1, .int .i64 y1] 31)).alloc (.cells #[.int .i64 0, .int .i64 0, .int .i64 0, .slice none 0 0] 26) = W3 := ⟨_, rfl⟩
  have hB := balloc (balloc (balloc (bref w) (.cells #[.int .i64 W, .int .i64 H, .int .i64 M, .slice (some ⟨b, off, none⟩) L.length cap] 26)) (.cells #[.int .i64 x0, .int .i64 y0, .int .i64 x1, .int .i64 y1] 31)) (.cells #[.int .i64 0, .int .i64 0, .int .i64 0, .slice none 0 0] 26)
  have hS0 := prs_start w W H M (.slice (some ⟨b, off, none⟩) L.length cap) x0 y0 x1 y1 26 31 (.cells #[.int .i64 0, .int .i64 0, .int .i64 0, .slice none 0 0] 26)
  rw [eW3] at hS0
  have hS : PRS W3 w.heap.size (w.heap.size + 1) W H M (.slice (some ⟨b, off, none⟩) L.length cap) x0 y0 x1 y1 W3 := hS0
  have hOp : Open4 W3 (w.heap.size + 1 + 1) := by rw [← eW3]; exact (Open4.new _ _ _ _ _ _).at (by simp)
  have hz3 : W3.heap.size = w.heap.size + 1 + 1 + 1 := by rw [← eW3]; simp
  rw [eW3] at hB
  simp only [eW3]
  have hs3 := Lib.hid (is_below hs'.out hB)
  have hB' := Lib.hid hB
  have hOp' := Lib.hid hOp
  have hS := Lib.hid hS
  clear hS0 eW3 hB hOp
  refine (pvalid_is hv'.out _ _ _ hs3.out (by omega)).mono ?_; rintro e w1 ⟨rfl, hb⟩
  replace hS := Lib.hid (prs_keep hb hS.out)
  clear hb
  obtain ⟨_, s0, s1, s2, s3, s4, s5, s6, s7⟩ := hS.out
  go_wp2_with fail
  refine (empty_is he'.out _).mono ?_; rintro e w2 ⟨rfl, hb⟩
  replace hS := Lib.hid (prs_keep hb hS.out)
  clear hb s0 s1 s2 s3 s4 s5 s6 s7
  obtain ⟨_, s0, s1, s2, s3, s4, s5, s6, s7⟩ := hS.out
  go_wp2_with fail
  refine (inside_is hi'.out _).mono ?_; rintro e w3 ⟨rfl, hb⟩
  replace hS := Lib.hid (prs_keep hb hS.out)
  clear hb s0 s1 s2 s3 s4 s5 s6 s7
  obtain ⟨_, s0, s1, s2, s3, s4, s5, s6, s7⟩ := hS.out
  have hlt3 : w.heap.size + 1 + 1 < w3.heap.size := by have := hS.out.1.out.size; omega
  go_wp2_with fail
  refine (pnew_is hz.out _).mono ?_; rintro e wN ⟨g, gc, rfl, hPix, hb⟩
  simp only [pv]
  have hgl := hPix.lt
  have hC0 : CropS W3 w.heap.size wN.heap.size g gc W H M (.slice (some ⟨b, off, none⟩) L.length cap) x0 y0 x1 y1 cw ch (List.replicate (cw * ch) 0) (wN.alloc (.cells #[.int .i64 cw, .int .i64 ch, .int .i64 M, .slice (some ⟨g, 0, none⟩) (cw * ch) gc] 26)) :=
    ⟨prs_keep (balloc (bref _) _) (prs_keep hb hS.out), by go_cell, by go_cell, by go_cell, by rw [List.length_replicate]; go_cell, ((hOp'.out.below hS.out.1.out).below hb).alloc _, (hPix.base hS.out.1.out.size).below (balloc (bref _) _), by omega⟩
  replace hC0 := Lib.hid hC0
  have hgc := hPix.cap
  rw [List.length_replicate] at hgc
  have hgc' := Lib.hid hgc
  clear s0 s1 s2 s3 s4 s5 s6 s7 hb hPix hS hgl hlt3 hgc
  have q1 := hC0.out.q1
  go_wp2_with fail
  clear q1
  go_loopw [45] (fun y wr => ∃ (k : Nat) (K : List Int), k ≤ ch ∧ y = .int .i64 k ∧ Hid (K.length = cw * ch ∧ Agree K C (k * cw)) ∧ Hid (CropS W3 w.heap.size wN.heap.size g gc W H M (.slice (some ⟨b, off, none⟩) L.length cap) x0 y0 x1 y1 cw ch K wr)) (fun y _ => ch - (intOf y).toNat)
  case atStart => exact ⟨0, _, by omega, rfl, Lib.hid ⟨by simp, by rw [Nat.zero_mul]; exact agree_zero _ _⟩, hC0⟩
  case round =>
    clear hC0
    obtain ⟨k, K, hk, rfl, hK, hS⟩ := hrel
    by_cases hlt : k < ch
    · have hkI : (k : Int) < ch := by omega
      have q1 := hS.out.q1
      obtain ⟨t0, t1⟩ := place_bd (W := W) (H := H) (k := y0 + k) (i := x0 + (cw - 1 : Nat)) (by omega) (by omega) (by omega) (by omega)
      obtain ⟨T, eT⟩ : ∃ T, (y0 + (k : Int)) * W = T := ⟨_, rfl⟩
      rw [eT] at t0 t1
      obtain ⟨F2, eF2⟩ : ∃ F2 : Nat, T + x0 = F2 := ⟨(T + x0).toNat, by omega⟩
      have hfit2 : F2 + cw ≤ L.length := by have := hlen'.out; omega
      have hkc : k * cw + cw ≤ cw * ch := by
        have h1 : (k + 1) * cw ≤ ch * cw := Nat.mul_le_mul_right _ (by omega)
        rw [Nat.add_one_mul] at h1
        rw [Nat.mul_comm cw ch]; omega
      obtain ⟨F1, eF1⟩ : ∃ F1, k * cw = F1 := ⟨_, rfl⟩
      obtain ⟨N, eN⟩ : ∃ N, cw * ch = N := ⟨_, rfl⟩
      have hAg := Lib.hid (agree_row hK.out.2 eF1 (by rw [hK.out.1]; omega) (by rw [eT]; exact eF2) hfit2 (fun j hj => hCa.out j (by omega)))
      have hlen2 := Lib.hid (show (layL K F1 (rowX L F2 cw)).length = cw * ch by rw [layL_len (by rw [rowX_len hfit2, hK.out.1]; omega)]; exact hK.out.1)
      have hR0 : RowS W3 w.heap.size wN.heap.size g gc W H M (.slice (some ⟨b, off, none⟩) L.length cap) x0 y0 x1 y1 cw ch N K (layL K F1 (rowX L F2 cw)) wr.drew :=
        rowS_drew (rowS_of hS.out (.inl rfl) (by rw [hK.out.1, eN]))
      have hrow1 := Lib.hid (fun w => prow_0 cw ch M g N gc k cw F1 w (by rw [← eF1]; push_cast; rfl) (by omega) (by omega) (by rw [← eN]; exact hgc'.out.1) hgc'.out.2)
      have hrow2 := Lib.hid (fun w => prow_any W H M b off L.length cap x0 (y0 + k) cw F2 w (by rw [eT]; exact eF2) (by rw [eT]; omega) (by omega) (by omega) (by omega) hfit2 hcap'.out.1 hcap'.out.2)
      have hKN := Lib.hid (show K.length = N by rw [hK.out.1, eN])
      have hfit1 : F1 + cw ≤ N := by omega
      clear eT eF2 eF1 eN t0 t1 hkc
      have e1 : IntKind.i64.wrap (y0 + (k : Int)) = y0 + k := IntWalk.i64_in _ (by omega)
      go_upto_region 7 with fail
      clear q1
      go_region_held3 (fun w' => RowS W3 w.heap.size wN.heap.size g gc W H M (.slice (some ⟨b, off, none⟩) L.length cap) x0 y0 x1 y1 cw ch N K (layL K F1 (rowX L F2 cw)) w') ((first | exact hR0 | exact hR2 | exact rowS_below hb ‹_›))
        (first
          | (go_at_call 35; (with_reducible refine (hrow1.out _).mono ?_); rintro e w1 ⟨rfl, hb⟩)
          | (go_at_call 35; (with_reducible refine (hrow2.out _).mono ?_); rintro e w1 ⟨rfl, hb⟩)
          | (refine step_copy_crop rfl (.tmp 52) (.tmp 62) rfl b off F1 F2 (dCap := gc - F1) (sCap := cap - F2) (L := L) (g := g) (cw := cw) (by simp [Act.eval, Act.put]) (by simp [Act.eval, Act.put]) (‹RowS W3 w.heap.size wN.heap.size g gc W H M (.slice (some ⟨b, off, none⟩) L.length cap) x0 y0 x1 y1 cw ch N K (layL K F1 (rowX L F2 cw)) _›) hKN.out hfit1 hfit2 hs3.out ?_; intro w4 hfin hR2))
      all_goals
        go_wp2_with fail
        go_roundw
        case rel => exact ⟨k + 1, _, by omega, by go_num, Lib.hid ⟨hlen2.out, hAg.out⟩, hfin⟩
        case measure => simp [intOf]; omega
    · obtain rfl : k = ch := by omega
      have hKC := Lib.hid (agree_done hK.out.2 (by rw [hCl'.out]; exact hK.out.1) (by rw [hK.out.1, Nat.mul_comm]))
      obtain ⟨q0, q1, q2, q3⟩ := And.intro hS.out.q0 (And.intro hS.out.q1 (And.intro hS.out.q2 hS.out.q3))
      obtain ⟨⟨v0, o0, f0⟩, ⟨v1, o1, f1⟩, ⟨v2, o2, f2⟩, ⟨v3, o3, f3⟩⟩ := open_cells hS.out.op
      go_wp2_with fail
      rw [hO.out, hcw, hch]
      refine ret_plane2 Try.results13 rfl rfl rfl hS.out.op ⟨bput4 (bthen hB'.out hS.out.prs.1.out) (by omega) _ _ _ _, g, gc, ?_, ?_⟩
      · rw [hKC.out]; rfl
      · rw [← hKC.out]
        obtain ⟨g0, g1, g2, g3⟩ := hS.out.far
        exact (hS.out.pix.base (by omega)).grown (gput4 (gref _ (some (w.heap.size + 1 + 1))) (.inr rfl) _ _ _ _) (by simpa using g2)
theorem pcrop_any (W H M : Int) (L : List Int) (a : Option Addr) (cap : Nat) (x0 y0 x1 y1 : Int) (w : World) (hs : SliceIs w a L) (hcap : L.length ≤ cap) (hcm : cap ≤ maxLen) :
    Calls Try.prog 13 #[.agg #[.int .i64 W, .int .i64 H, .int .i64 M, .slice a L.length cap], .agg #[.int .i64 x0, .int .i64 y0, .int .i64 x1, .int .i64 y1]] w (PlanePost (x1 - x0) (y1 - y0) M (cropO W H M L x0 y0 x1 y1) w) := by
  by_cases hk : cropOk W H M L x0 y0 x1 y1
  · exact pcrop_2 W H M L a cap x0 y0 x1 y1 w hs hcap hcm hk
  · exact pcrop_1 W H M L a cap x0 y0 x1 y1 w hs (by unfold maxLen at hcm; omega) hk
end Go.Proofs.Ytpmajophkhihlaa
