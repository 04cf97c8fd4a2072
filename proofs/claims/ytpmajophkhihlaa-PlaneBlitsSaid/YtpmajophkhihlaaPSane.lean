/- The chapter's examples as a contract. -/
import Derived.Test.YtpmajophkhihlaaEnv
import Derived.Test.YtpmajophkhihlaaPBlitB
import Derived.Deep.DeepMust
namespace Go.Proofs.Ytpmajophkhihlaa
open Go.ChangeShapes Go.WideShapes Go.ChangeAt Go.RowKit
set_option linter.unusedVariables false
set_option linter.unusedSimpArgs false

theorem two_any (w : World) : Calls Try.prog 42 #[] w fun e w' => ∃ g, e = .returned (.agg #[.int .i64 2, .int .i64 2, .int .i64 9, .slice (some ⟨g, 0, none⟩) 4 4]) ∧ PixAt w.heap.size w' g 4 [1, 2, 3, 4] ∧ Below w.heap.size w w' := by
  go_enter Try.func42, Try.ntmps42
  go_wp2_with fail
  go_returns
  refine ⟨_, rfl, ?_, by go_grown⟩
  have hr := row_new (w.alloc (.cells #[.int .i64 2, .int .i64 2, .int .i64 9, .slice (some ⟨w.heap.size + 1, 0, none⟩) 4 4] 26)) [1, 2, 3, 4]
  have := RowIs.pix (base := w.heap.size) hr (by simp) (by simp [maxLen])
  simpa [ints] using this
theorem crop_two (w : World) {g : Nat} (hs : SliceIs w (some ⟨g, 0, none⟩) [1, 2, 3, 4]) : Calls Try.prog 13 #[.agg #[.int .i64 2, .int .i64 2, .int .i64 9, .slice (some ⟨g, 0, none⟩) 4 4], .agg #[.int .i64 1, .int .i64 0, .int .i64 2, .int .i64 2]] w
    fun e w' => ∃ g c, e = .returned (.tuple #[.agg #[.int .i64 1, .int .i64 2, .int .i64 9, .slice (some ⟨g, 0, none⟩) 2 c], .bool true]) ∧ PixAt w.heap.size w' g c [2, 4] ∧ Below w.heap.size w w' :=
  (pcrop_any 2 2 9 [1, 2, 3, 4] (some ⟨g, 0, none⟩) 4 1 0 2 2 w hs (by simp) (by simp [maxLen])).mono fun e w' h => by
    obtain ⟨g', c, he, hp, hb⟩ := post_some h (show _ = some [2, 4] by decide)
    exact ⟨g', c, by simpa using he, hp, hb⟩
theorem new_three (w : World) : Calls Try.prog 23 #[.int .i64 3, .int .i64 1, .int .i64 5] w
    fun e w' => ∃ g c, e = .returned (.tuple #[.agg #[.int .i64 3, .int .i64 1, .int .i64 5, .slice (some ⟨g, 0, none⟩) 3 c], .bool true]) ∧ PixAt w.heap.size w' g c [0, 0, 0] ∧ Below w.heap.size w w' :=
  (pnew_any 3 1 5 w).mono fun e w' h => by
    obtain ⟨g', c, he, hp, hb⟩ := post_some h (show _ = some [0, 0, 0] by decide)
    exact ⟨g', c, by simpa using he, hp, hb⟩
theorem blit_two (w : World) {g g2 c2 : Nat} (hs : SliceIs w (some ⟨g, 0, none⟩) [1, 2, 3, 4]) (hs2 : SliceIs w (some ⟨g2, 0, none⟩) [2, 4]) (h1 : 2 ≤ c2) (h2 : c2 ≤ maxLen) :
    Calls Try.prog 14 #[.agg #[.int .i64 2, .int .i64 2, .int .i64 9, .slice (some ⟨g, 0, none⟩) 4 4], .agg #[.int .i64 1, .int .i64 2, .int .i64 9, .slice (some ⟨g2, 0, none⟩) 2 c2], .int .i64 0, .int .i64 0] w
    fun e w' => ∃ g c, e = .returned (.tuple #[.agg #[.int .i64 2, .int .i64 2, .int .i64 9, .slice (some ⟨g, 0, none⟩) 4 c], .bool true]) ∧ PixAt w.heap.size w' g c [2, 2, 4, 4] ∧ Below w.heap.size w w' :=
  (pblit_any 2 2 9 [1, 2, 3, 4] (some ⟨g, 0, none⟩) 4 1 2 9 [2, 4] (some ⟨g2, 0, none⟩) c2 0 0 w hs hs2 (by simp) (by simp [maxLen]) h1 h2).mono fun e w' h => by
    obtain ⟨g', c, he, hp, hb⟩ := post_some h (show _ = some [2, 2, 4, 4] by decide)
    exact ⟨g', c, by simpa using he, hp, hb⟩
theorem at_two (w : World) {g : Nat} (hs : SliceIs w (some ⟨g, 0, none⟩) [1, 2, 3, 4]) : Calls Try.prog 26 #[.agg #[.int .i64 2, .int .i64 2, .int .i64 9, .slice (some ⟨g, 0, none⟩) 4 4], .agg #[.int .i64 1, .int .i64 0], .int .i64 (-1), .int .i64 5] w (NumPost 3 w) := by
  have h : atN 2 2 9 [1, 2, 3, 4] 1 0 (-1) 5 = 3 := by decide
  have := pat_any 2 2 9 [1, 2, 3, 4] (some ⟨g, 0, none⟩) 4 1 0 (-1) 5 w hs (by simp) (by omega) (by omega) (by omega) (by omega)
  rw [h] at this; exact this
theorem valid_two (w : World) {g : Nat} (hs : SliceIs w (some ⟨g, 0, none⟩) [1, 2, 3, 4]) : Calls Try.prog 17 #[.agg #[.int .i64 2, .int .i64 2, .int .i64 9, .slice (some ⟨g, 0, none⟩) 4 4]] w (TestPost true w) :=
  pvalid_is (L := [1, 2, 3, 4]) (by decide) (some ⟨g, 0, none⟩) 4 w hs (by simp)
theorem equal_two (w : World) {g g2 : Nat} (hs : SliceIs w (some ⟨g, 0, none⟩) [1, 2, 3, 4]) (hs2 : SliceIs w (some ⟨g2, 0, none⟩) [1, 2, 3, 4]) :
    Calls Try.prog 15 #[.agg #[.int .i64 2, .int .i64 2, .int .i64 9, .slice (some ⟨g, 0, none⟩) 4 4], .agg #[.int .i64 2, .int .i64 2, .int .i64 9, .slice (some ⟨g2, 0, none⟩) 4 4]] w (TestPost true w) := by
  have h : eqB 2 2 9 [1, 2, 3, 4] 2 2 9 [1, 2, 3, 4] = true := by decide
  have := pequal_any 2 2 9 2 2 9 [1, 2, 3, 4] [1, 2, 3, 4] (some ⟨g, 0, none⟩) (some ⟨g2, 0, none⟩) 4 4 w hs hs2 (by simp) (by simp)
  rw [h] at this; exact this
/-- a box that is read, and hidden all the rest -/
abbrev OneBox (W : World) (l : List Th) (b : Nat) (v0 v1 v2 v3 : Value) (w' : World) : Prop :=
  Hid (Sn W l w' ∧ Th.box b v0 v1 v2 v3 ∈ l) ∧ w'.cell? ⟨b, 0, none⟩ = some v0 ∧ w'.cell? ⟨b, 1, none⟩ = some v1 ∧ w'.cell? ⟨b, 2, none⟩ = some v2 ∧ w'.cell? ⟨b, 3, none⟩ = some v3
theorem oneBox_of {W : World} {l : List Th} {b : Nat} {v0 v1 v2 v3 : Value} {w' : World} (h : Sn W l w') (hm : Th.box b v0 v1 v2 v3 ∈ l) : OneBox W l b v0 v1 v2 v3 w' := ⟨Lib.hid ⟨h, hm⟩, h.en.box b hm⟩
theorem oneBox_put {W : World} {l : List Th} {b : Nat} {v0 v1 v2 v3 : Value} {w5 : World} {N q : Nat} (hN : ∀ x ∈ l, x.blk < N) (hq : N ≤ q) (hW : W.heap.size ≤ q) (h : OneBox W l b v0 v1 v2 v3 w5) (u0 u1 u2 u3 : Value) : OneBox W l b v0 v1 v2 v3 (put4 w5 q u0 u1 u2 u3) :=
  oneBox_of ⟨bput4 h.1.out.1.below hW _ _ _ _, h.1.out.1.en.row (gput4 (gref w5 (some q)) (.inr rfl) _ _ _ _) (fun x hx => by have := hN x hx; omega)⟩ h.1.out.2
theorem oneBox_below {W : World} {l : List Th} {b : Nat} {v0 v1 v2 v3 : Value} {w1 w2 : World} (hb : Below w1.heap.size w1 w2) (h : OneBox W l b v0 v1 v2 v3 w1) : OneBox W l b v0 v1 v2 v3 w2 := oneBox_of (h.1.out.1.call hb) h.1.out.2
set_option maxHeartbeats 2000000 in
theorem sane_any (w : World) : Calls Try.prog 18 #[] w (TestPost true w) := by
  go_enter Try.func18, Try.ntmps18
  go_wp2_with fail
  refine (two_any _).mono ?_; rintro e w1 ⟨g1, rfl, hP, hb⟩
  have hS := Lib.hid ((Sn.start w).made hP hb)
  clear hP hb
  go_wp2_with fail
  refine (crop_two _ (hS.out.en.isS g1 4 (by simp))).mono ?_; rintro e w2 ⟨g2, c2, rfl, hP, hb⟩
  have hcp := Lib.hid hP.cap
  replace hS := Lib.hid ((hS.out.made hP hb).new (.int .i64 1) (.int .i64 2) (.int .i64 9) (.slice (some ⟨g2, 0, none⟩) 2 c2) 26)
  clear hP hb
  go_wp2_with fail
  refine (new_three _).mono ?_; rintro e w3 ⟨g3, c3, rfl, hP, hb⟩
  replace hS := Lib.hid ((hS.out.made hP hb).new (.int .i64 3) (.int .i64 1) (.int .i64 5) (.slice (some ⟨g3, 0, none⟩) 3 c3) 26)
  clear hP hb
  have hwx := Lib.hid (hS.out.call (bdrewN (bref _) 1))
  go_upto_region 3 with fail
  obtain ⟨wx, ewx⟩ : ∃ wx, (w3.alloc (.cells #[.int .i64 3, .int .i64 1, .int .i64 5, .slice (some ⟨g3, 0, none⟩) 3 c3] 26)) = wx := ⟨_, rfl⟩
  rw [ewx] at hS hwx
  simp only [ewx]
  clear ewx
  obtain ⟨l, el⟩ : ∃ l, [Th.box w3.heap.size (.int .i64 3) (.int .i64 1) (.int .i64 5) (.slice (some ⟨g3, 0, none⟩) 3 c3), .pix g3 c3 [0, 0, 0], .box w2.heap.size (.int .i64 1) (.int .i64 2) (.int .i64 9) (.slice (some ⟨g2, 0, none⟩) 2 c2), .pix g2 c2 [2, 4], .pix g1 4 [1, 2, 3, 4]] = l := ⟨_, rfl⟩
  rw [el] at hwx
  have hO : OneBox w l w2.heap.size (.int .i64 1) (.int .i64 2) (.int .i64 9) (.slice (some ⟨g2, 0, none⟩) 2 c2) wx.drew := oneBox_of hwx.out (by rw [← el]; simp)
  have hm2 := Lib.hid (show Th.pix g2 c2 [2, 4] ∈ l by rw [← el]; simp)
  have hN := Lib.hid (show ∀ x ∈ l, x.blk < wx.heap.size from hwx.out.en.lt)
  have hWx := Lib.hid (show w.heap.size ≤ wx.heap.size from hwx.out.below.size)
  have el' := Lib.hid el
  clear el hS
  go_cut [5, 6] (fun q t wy => ∃ b g c, q = .pointer (some ⟨b, 0, none⟩) ∧ t = .bool true ∧ Hid (Sn w (.box b (.int .i64 2) (.int .i64 2) (.int .i64 9) (.slice (some ⟨g, 0, none⟩) 4 c) :: .pix g c [2, 2, 4, 4] :: l) wy))
  case first =>
    first | go_must (go_region_held3 (fun w' => OneBox w l w2.heap.size (.int .i64 1) (.int .i64 2) (.int .i64 9) (.slice (some ⟨g2, 0, none⟩) 2 c2) w') ((first | with_reducible exact hO | with_reducible exact oneBox_below hb ‹_› | with_reducible exact oneBox_below hb5 ‹_› | with_reducible exact oneBox_below (balloc (bref _) _) ‹_› | with_reducible exact oneBox_below (balloc (bref _) _) hS5.out | with_reducible exact oneBox_put hN.out hz4 (Nat.le_trans hWx.out hz4) hS5.out _ _ _ _ | with_reducible exact oneBox_put hN.out (Nat.le_refl _) hWx.out hS5.out _ _ _ _))
      (first
        | (go_at_call 42; refine (two_any _).mono ?_; rintro e w4 ⟨g4, rfl, hP4, hb⟩)
        | (go_at_call 14; refine (blit_two _ (by first | exact hP4.isS | exact is_below hP4.isS (balloc (bref _) _)) ((‹OneBox w l w2.heap.size (.int .i64 1) (.int .i64 2) (.int .i64 9) (.slice (some ⟨g2, 0, none⟩) 2 c2) _›).1.out.1.en.isS g2 c2 hm2.out) hcp.out.1 hcp.out.2).mono ?_; rintro e w5 ⟨g5, c5, rfl, hP5, hb5⟩; have hS5 := Lib.hid (oneBox_below hb5 (‹OneBox w l w2.heap.size (.int .i64 1) (.int .i64 2) (.int .i64 9) (.slice (some ⟨g2, 0, none⟩) 2 c2) _›));
            have hz4 : wx.heap.size ≤ w4.heap.size := (by first | exact hb.size | exact Nat.le_of_succ_le (by simpa using hb.size));
            (first
              | (have hop := Lib.hid (Open4.below (open_new0 26 (.int .i64 0) (.int .i64 0) (.int .i64 0) (.slice none 0 0) w4) hb5))
              | (have hop := Lib.hid (show Open4 w5 wx.heap.size from Open4.below (Open4.below (open_new0 26 (.int .i64 0) (.int .i64 0) (.int .i64 0) (.slice none 0 0) wx.drew) hb) hb5))
              | (have hop := Lib.hid (open_new0 26 (.int .i64 0) (.int .i64 0) (.int .i64 0) (.slice none 0 0) w5)));
            have hcc := open_val hop.out; have hc0 := hcc 0 (by omega); have hc1 := hcc 1 (by omega); have hc2 := hcc 2 (by omega); have hc3 := hcc 3 (by omega); clear hcc;
            have hf0 := (hop.out 0 (by omega)).2; have hf1 := (hop.out 1 (by omega)).2; have hf2 := (hop.out 2 (by omega)).2; have hf3 := (hop.out 3 (by omega)).2))) | skip
    all_goals
      go_wp2_with fail
      go_meet
      first
        | exact ⟨_, g5, c5, rfl, rfl, Lib.hid (Sn.var2 (t := 26) hwx.out (open_new0 26 (.int .i64 0) (.int .i64 0) (.int .i64 0) (.slice none 0 0)) (.inl ⟨hb, hb5, hP5, rfl, rfl⟩))⟩
        | exact ⟨_, g5, c5, rfl, rfl, Lib.hid (Sn.var2 (t := 26) hwx.out (open_new0 26 (.int .i64 0) (.int .i64 0) (.int .i64 0) (.slice none 0 0)) (.inr (.inl ⟨hb, hb5, hP5, rfl, rfl⟩)))⟩
        | exact ⟨_, g5, c5, rfl, rfl, Lib.hid (Sn.var2 (t := 26) hwx.out (open_new0 26 (.int .i64 0) (.int .i64 0) (.int .i64 0) (.slice none 0 0)) (.inr (.inr ⟨hb, hb5, hP5, rfl, rfl⟩)))⟩
  case rest =>
    obtain ⟨b, g, c, rfl, rfl, hS⟩ := hcut
    rw [← el'.out] at hS
    obtain ⟨m0, m1, m2, m3⟩ := hS.out.en.box w2.heap.size (v0 := .int .i64 1) (v1 := .int .i64 2) (v2 := .int .i64 9) (v3 := .slice (some ⟨g2, 0, none⟩) 2 c2) (by simp)
    obtain ⟨n0, n1, n2, n3⟩ := hS.out.en.box w3.heap.size (v0 := .int .i64 3) (v1 := .int .i64 1) (v2 := .int .i64 5) (v3 := .slice (some ⟨g3, 0, none⟩) 3 c3) (by simp)
    obtain ⟨r0, r1, r2, r3⟩ := hS.out.en.box b (v0 := .int .i64 2) (v1 := .int .i64 2) (v2 := .int .i64 9) (v3 := .slice (some ⟨g, 0, none⟩) 4 c) (by simp)
    have x1 : wc.cell? ⟨g2, 1, none⟩ = some (.int .i64 4) := (hS.out.en.pix g2 c2 (L := [2, 4]) (by simp)).cell (k := 1) (by simp)
    have x2 : wc.cell? ⟨g, 0, none⟩ = some (.int .i64 2) := (hS.out.en.pix g c (L := [2, 2, 4, 4]) (by simp)).cell (k := 0) (by simp)
    have hB := Lib.hid hS.out.below
    clear hO hm2 hN hWx el' hwx hS
    go_wp2_with fail
    refine (two_any _).mono ?_; rintro e wA ⟨gA, rfl, hP, hb⟩
    replace hB := Lib.hid (bthen hB.out hb)
    have hPh := Lib.hid hP
    clear hb hP m0 m1 m2 m3 n0 n1 n2 n3 r0 r1 r2 r3 x1 x2
    go_wp2_with fail
    refine (at_two _ hPh.out.isS).mono ?_; rintro e wB ⟨rfl, hb⟩
    replace hB := Lib.hid (bthen hB.out hb)
    clear hb hPh
    go_wp2_with fail
    refine (two_any _).mono ?_; rintro e wC ⟨gC, rfl, hP, hb⟩
    replace hB := Lib.hid (bthen hB.out hb)
    have hPh := Lib.hid hP
    clear hb hP
    go_wp2_with fail
    refine (valid_two _ hPh.out.isS).mono ?_; rintro e wD ⟨rfl, hb⟩
    replace hB := Lib.hid (bthen hB.out hb)
    clear hb hPh
    go_wp2_with fail
    refine (two_any _).mono ?_; rintro e wE ⟨gE, rfl, hP, hb⟩
    replace hB := Lib.hid (bthen hB.out hb)
    have hPh := Lib.hid hP
    clear hb hP
    go_wp2_with fail
    refine (two_any _).mono ?_; rintro e wF ⟨gF, rfl, hP2, hb⟩
    replace hB := Lib.hid (bthen hB.out hb)
    have hPh2 := Lib.hid hP2
    have hPh1 := Lib.hid (is_below hPh.out.isS hb)
    clear hb hP2
    go_wp2_with fail
    refine (equal_two _ hPh1.out hPh2.out.isS).mono ?_; rintro e wG ⟨rfl, hb⟩
    replace hB := Lib.hid (bthen hB.out hb)
    clear hb
    go_wp2_with fail
    go_ret
    exact ⟨rfl, hB.out⟩
end Go.Proofs.Ytpmajophkhihlaa
