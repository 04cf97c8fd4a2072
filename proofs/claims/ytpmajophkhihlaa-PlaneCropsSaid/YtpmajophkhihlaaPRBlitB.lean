/- The contract of the reference's Blit where both planes are valid: the place, and the loops. -/
import Derived.Test.YtpmajophkhihlaaPRBlit
namespace Go.Proofs.Ytpmajophkhihlaa
open Go.ChangeShapes Go.WideShapes Go.ChangeAt Go.RowKit
set_option linter.unusedVariables false
set_option linter.unusedSimpArgs false

theorem rcopy_is (W H M : Int) (L : List Int) (a : Option Addr) (cap : Nat) (w : World) (hs : SliceIs w a L) (l1 : 1 ≤ L.length) (l2 : L.length ≤ 16384) :
    Calls Try.prog 11 #[.agg #[.int .i64 W, .int .i64 H, .int .i64 M, .slice a L.length cap]] w fun e w' => ∃ g c, e = .returned (.agg #[.int .i64 W, .int .i64 H, .int .i64 M, .slice (some ⟨g, 0, none⟩) L.length c]) ∧ PixAt w.heap.size w' g c L ∧ Below w.heap.size w w' := rcopy_any W H M L a cap w hs l1 l2
section
variable (W H M : Int) (L : List Int) (a : Option Addr) (cap : Nat) (cw ch : Nat) (M2 : Int) (K : List Int) (a2 : Option Addr) (cap2 : Nat) (x y : Int) (w : World)
set_option maxHeartbeats 1000000 in
theorem rblit_3 (hs : SliceIs w a L) (hl : L.length ≤ 9223372036854775807) (hs2 : SliceIs w a2 K) (hl2 : K.length ≤ 9223372036854775807) (hv : planeB W H M L = true) (hv2 : planeB cw ch M2 K = true) (hp : ¬ placeOk W H cw ch x y) :
    Calls Try.prog 30 #[.agg #[.int .i64 W, .int .i64 H, .int .i64 M, .slice a L.length cap], .agg #[.int .i64 cw, .int .i64 ch, .int .i64 M2, .slice a2 K.length cap2], .int .i64 x, .int .i64 y] w (PlanePost W H M (blitO W H M L cw ch M2 K x y) w) := by
  have hv' := Lib.hid hv
  have hv2' := Lib.hid hv2
  have hO := Lib.hid (blit_none (M := M) (L := L) (M2 := M2) (K := K) (.inr (.inr (.inl hp))))
  have hs' := Lib.hid hs
  have hs2' := Lib.hid hs2
  obtain ⟨⟨wd1, wd2⟩, ⟨h1, h2⟩, _, _, _⟩ := sizeB_t.1 (planeB_t.1 hv).1
  obtain ⟨⟨c1, c2⟩, ⟨d1, d2⟩, _, _, _⟩ := sizeB_t.1 (planeB_t.1 hv2).1
  have hp' : x < 0 ∨ (0 ≤ x ∧ y < 0) ∨ (0 ≤ x ∧ 0 ≤ y ∧ x > W - cw) ∨ (0 ≤ x ∧ 0 ≤ y ∧ x ≤ W - cw ∧ y > H - ch) := by unfold placeOk at hp; omega
  clear hv hs hv2 hs2 hp
  go_enter Try.func30, Try.ntmps30
  go_wp2_with fail
  refine (rpvalid_is hv'.out _ _ _ (is_below hs'.out (balloc (balloc (balloc (bref w) _) _) _)) hl).mono ?_; rintro e w1 ⟨rfl, hb⟩
  obtain ⟨hc, hf⟩ := bcell hb
  obtain ⟨z0, z1, z2, _⟩ := sz3 hb
  have hOp := Lib.hid (Open4.below (open3n w _ _ _ _ _ _ _) hb)
  have hb' := Lib.hid (bthen (balloc (balloc (balloc (bref w) _) _) _) hb)
  go_wp2_with fail
  refine (rpvalid_is hv2'.out _ _ _ (is_below hs2'.out hb'.out) hl2).mono ?_; rintro e w2 ⟨rfl, hb2⟩
  obtain ⟨hc2, hf2⟩ := bcell hb2
  have y0 := bmore hb2 z0
  have y1 := bmore hb2 z1
  have y2 := bmore hb2 z2
  rcases hp' with hp | ⟨hp1, hp⟩ | ⟨hp1, hp2, hp⟩ | ⟨hp1, hp2, hp3, hp⟩
  all_goals
    go_wp2_with fail
    rw [hO.out]
    refine ret_plane2 Try.results30 rfl rfl rfl (hOp.out.below hb2) ⟨bput4 (bthen hb'.out hb2) (by omega) _ _ _ _, rfl⟩
end
/-- while a plane is laid into the copy of another one -/
structure BlitS (W3 : World) (B Q g cap : Nat) (W H M : Int) (sl : Value) (cw ch : Nat) (M2 : Int) (sl2 : Value) (R : List Int) (w' : World) : Prop where
  pps : PPS W3 B (B + 1) W H M sl cw ch M2 sl2 w'
  q0 : w'.cell? ⟨Q, 0, none⟩ = some (.int .i64 W)
  q1 : w'.cell? ⟨Q, 1, none⟩ = some (.int .i64 H)
  q2 : w'.cell? ⟨Q, 2, none⟩ = some (.int .i64 M)
  q3 : w'.cell? ⟨Q, 3, none⟩ = some (.slice (some ⟨g, 0, none⟩) R.length cap)
  op : Open4 w' (B + 1 + 1)
  pix : PixAt W3.heap.size w' g cap R
  far : ¬ g = B ∧ ¬ g = B + 1 ∧ ¬ g = B + 1 + 1 ∧ ¬ g = Q
theorem BlitS.store {W3 : World} {B Q g cap : Nat} {W H M : Int} {sl : Value} {cw ch : Nat} {M2 : Int} {sl2 : Value} {R : List Int} {w' : World} (h : BlitS W3 B Q g cap W H M sl cw ch M2 sl2 R w') (k : Nat) (v : Int) :
    BlitS W3 B Q g cap W H M sl cw ch M2 sl2 (R.set k v) (w'.setCell ⟨g, k, none⟩ (.int .i64 v)) := by
  obtain ⟨h0, h1, h2, h3, h4, h5, h6, h7, h8⟩ := h.pps
  obtain ⟨f0, f1, f2, f3⟩ := h.far
  have hg := grown_set w' g k (.int .i64 v)
  have c : ∀ b o u, ¬ g = b → w'.cell? ⟨b, o, none⟩ = some u → (w'.setCell ⟨g, k, none⟩ (.int .i64 v)).cell? ⟨b, o, none⟩ = some u := fun b o u hne hc => hg.cell hc (by simpa using Ne.symm hne)
  refine ⟨⟨Lib.hid (h0.out.setCell h.pix.lt.1 _), c _ _ _ f0 h1, c _ _ _ f0 h2, c _ _ _ f0 h3, c _ _ _ f0 h4, c _ _ _ f1 h5, c _ _ _ f1 h6, c _ _ _ f1 h7, c _ _ _ f1 h8⟩, c _ _ _ f3 h.q0, c _ _ _ f3 h.q1, c _ _ _ f3 h.q2, ?_, ?_, (h.pix.store k v).1, h.far⟩
  · rw [List.length_set]; exact c _ _ _ f3 h.q3
  · exact h.op.grown hg (by simpa using Ne.symm f2)
set_option maxHeartbeats 4000000 in
set_option maxRecDepth 100000 in
theorem rblit_4 (W H M : Int) (L : List Int) (a : Option Addr) (cap : Nat) (cw ch : Nat) (M2 : Int) (K : List Int) (a2 : Option Addr) (cap2 : Nat) (x y : Int) (w : World)
    (hs : SliceIs w a L) (hs2 : SliceIs w a2 K) (hv : planeB W H M L = true) (hv2 : planeB cw ch M2 K = true) (hp : placeOk W H cw ch x y) :
    Calls Try.prog 30 #[.agg #[.int .i64 W, .int .i64 H, .int .i64 M, .slice a L.length cap], .agg #[.int .i64 cw, .int .i64 ch, .int .i64 M2, .slice a2 K.length cap2], .int .i64 x, .int .i64 y] w (PlanePost W H M (blitO W H M L cw ch M2 K x y) w) := by
  have hv' := Lib.hid hv
  have hv2' := Lib.hid hv2
  have hOt := Lib.hid (fun h4 => blit_some (x := x) (y := y) hv hv2 hp h4)
  have hOf := Lib.hid (fun k hk h => blit_none (W := W) (H := H) (M := M) (L := L) (W2 := cw) (H2 := ch) (M2 := M2) (K := K) (x := x) (y := y) (.inr (.inr (.inr ⟨k, hk, h⟩))))
  have hs' := Lib.hid hs
  have hs2' := Lib.hid hs2
  obtain ⟨⟨wd1, wd2⟩, ⟨h1, h2⟩, _, _, _⟩ := sizeB_t.1 (planeB_t.1 hv).1
  obtain ⟨⟨c1, c2⟩, ⟨d1, d2⟩, _, _, _⟩ := sizeB_t.1 (planeB_t.1 hv2).1
  have hlen := Lib.hid (planeB_t.1 hv).2.1
  have hlen2 := Lib.hid (show K.length = cw * ch by have := (planeB_t.1 hv2).2.1; exact_mod_cast this)
  have hlp : 1 ≤ L.length := by have := (planeB_t.1 hv).2.1; have := (prod_bd wd1 wd2 h1 h2).1; omega
  have hl := plane_len hv
  have hl2 := plane_len hv2
  obtain ⟨p1, p2, p3, p4⟩ := hp
  clear hv hs hv2 hs2
  go_enter Try.func30, Try.ntmps30
  go_wp2_with fail
  obtain ⟨W3, eW3⟩ : ∃ W3, ((w.alloc (.cells #[.int .i64 W, .int .i64 H, .int .i64 M, .slice a L.length cap] 26)).alloc (.cells #[.int .i64 cw, .int .i64 ch, .int .i64 M2, .slice a2 K.length cap2] 26)).alloc (.cells #[.int .i64 0, .int .i64 0, .int .i64 0, .slice none 0 0] 26) = W3 := ⟨_, rfl⟩
  have hB := balloc (balloc (balloc (bref w) (.cells #[.int .i64 W, .int .i64 H, .int .i64 M, .slice a L.length cap] 26)) (.cells #[.int .i64 cw, .int .i64 ch, .int .i64 M2, .slice a2 K.length cap2] 26)) (.cells #[.int .i64 0, .int .i64 0, .int .i64 0, .slice none 0 0] 26)
  have hS := pps_start w W H M (.slice a L.length cap) cw ch M2 (.slice a2 K.length cap2) 26 26 (.cells #[.int .i64 0, .int .i64 0, .int .i64 0, .slice none 0 0] 26)
  rw [eW3] at hS
  replace hS := Lib.hid hS
  have hOp := open3n w (.cells #[.int .i64 W, .int .i64 H, .int .i64 M, .slice a L.length cap] 26) (.cells #[.int .i64 cw, .int .i64 ch, .int .i64 M2, .slice a2 K.length cap2] 26) (.int .i64 0) (.int .i64 0) (.int .i64 0) (.slice none 0 0) 26
  rw [eW3] at hOp
  have hz3 : W3.heap.size = w.heap.size + 1 + 1 + 1 := by rw [← eW3]; simp
  rw [eW3] at hB
  simp only [eW3]
  have hs3 := Lib.hid (is_below hs'.out hB)
  have hs23 := Lib.hid (is_below hs2'.out hB)
  have hB' := Lib.hid hB
  have hOp' := Lib.hid hOp
  clear eW3 hB hOp
  refine (rpvalid_is hv'.out _ _ _ hs3.out (by omega)).mono ?_; rintro e w1 ⟨rfl, hb⟩
  replace hS := Lib.hid (pps_keep hb hS.out)
  clear hb
  obtain ⟨_, s0, s1, s2, s3, s4, s5, s6, s7⟩ := hS.out
  go_wp2_with fail
  refine (rpvalid_is hv2'.out _ _ _ (is_below hs23.out hS.out.1.out) (by omega)).mono ?_; rintro e w2 ⟨rfl, hb⟩
  replace hS := Lib.hid (pps_keep hb hS.out)
  clear hb s0 s1 s2 s3 s4 s5 s6 s7
  obtain ⟨_, s0, s1, s2, s3, s4, s5, s6, s7⟩ := hS.out
  go_wp2_with fail
  refine (rcopy_is W H M L a cap _ (is_below hs3.out hS.out.1.out) (by omega) (by omega)).mono ?_; rintro e wN ⟨g, gc, rfl, hPix, hb⟩
  have hgl := hPix.lt
  have hwl := hS.out.1.out.size
  have hC0 : BlitS W3 w.heap.size wN.heap.size g gc W H M (.slice a L.length cap) cw ch M2 (.slice a2 K.length cap2) L (wN.alloc (.cells #[.int .i64 W, .int .i64 H, .int .i64 M, .slice (some ⟨g, 0, none⟩) L.length gc] 26)) :=
    ⟨pps_keep (balloc (bref _) _) (pps_keep hb hS.out), by go_cell, by go_cell, by go_cell, by go_cell, ((hOp'.out.below hS.out.1.out).below hb).alloc _, (hPix.base hwl).below (balloc (bref _) _), by omega⟩
  replace hC0 := Lib.hid hC0
  clear hb hPix hS hgl hwl s0 s1 s2 s3 s4 s5 s6 s7
  go_wp2_with fail
  go_loopw [11] (fun vv wr => ∃ (k : Nat) (R : List Int), k ≤ ch ∧ vv = .int .i64 k ∧ Hid (Laid W L cw K x y (k * cw) R ∧ Under M K (k * cw)) ∧ Hid (BlitS W3 w.heap.size wN.heap.size g gc W H M (.slice a L.length cap) cw ch M2 (.slice a2 K.length cap2) R wr)) (fun vv _ => ch - (intOf vv).toNat)
  case atStart => exact ⟨0, L, by omega, rfl, Lib.hid ⟨by rw [Nat.zero_mul]; exact laid_zero (by omega), by rw [Nat.zero_mul]; exact fun k hk => by omega⟩, hC0⟩
  case round =>
    clear hC0
    obtain ⟨k, R, hk, rfl, hK, hS⟩ := hrel
    by_cases hlt : k < ch
    · have hkI : (k : Int) < ch := by omega
      have s5 := hS.out.pps.2.2.2.2.2.2.1
      go_wp2_with fail
      clear s5
      go_loopw [12] (fun uu wr => ∃ (j : Nat) (R : List Int), j ≤ cw ∧ uu = .int .i64 j ∧ Hid (Laid W L cw K x y (k * cw + j) R ∧ Under M K (k * cw + j)) ∧ Hid (BlitS W3 w.heap.size wN.heap.size g gc W H M (.slice a L.length cap) cw ch M2 (.slice a2 K.length cap2) R wr)) (fun uu _ => cw - (intOf uu).toNat)
      case atStart => exact ⟨0, R, by omega, rfl, Lib.hid ⟨by rw [Nat.add_zero]; exact hK.out.1, by rw [Nat.add_zero]; exact hK.out.2⟩, hS⟩
      case round =>
        clear hK hS
        obtain ⟨j, R, hj, rfl, hK, hS⟩ := hrel
        by_cases hltj : j < cw
        · have hltI : (j : Int) < cw := by omega
          have hm : k * cw + j < K.length := by
            have h1 : (k + 1) * cw ≤ ch * cw := Nat.mul_le_mul_right _ (by omega)
            rw [Nat.add_one_mul] at h1
            rw [hlen2.out, Nat.mul_comm cw ch]; omega
          obtain ⟨S, eS⟩ : ∃ S : Nat, (k : Int) * cw = S := ⟨k * cw, by push_cast; rfl⟩
          have eSn : k * cw = S := by exact_mod_cast eS
          obtain ⟨m, em⟩ : ∃ m : Nat, (S : Int) + j = m := ⟨S + j, by push_cast; rfl⟩
          have emn : S + j = m := by omega
          have emI : (m : Int) = k * cw + j := by omega
          rw [eSn, emn] at hm hK
          obtain ⟨b, off, e2, hcell⟩ := (is_below hs23.out hS.out.pps.1.out) m hm
          obtain ⟨V, eV⟩ : ∃ V, K.getD m 0 = V := ⟨_, rfl⟩
          rw [eV] at hcell
          have hmI : (m : Int) < K.length := by omega
          obtain ⟨_, s0, s1, s2, s3, s4, s5, s6, s7⟩ := hS.out.pps
          have eV' := Lib.hid eV
          have emn' := Lib.hid emn
          have eSn' := Lib.hid eSn
          have emI' := Lib.hid emI
          have hm' := Lib.hid hm
          have hsv := Lib.hid e2
          have n1 : IntKind.i64.wrap (S : Int) = S := IntWalk.i64_in _ (by omega)
          have n2 : IntKind.i64.wrap (m : Int) = m := IntWalk.i64_in _ (by omega)
          rw [e2] at s7
          clear eV emn eSn emI hm
          by_cases hVM : V > M
          · have hO := Lib.hid (hOf.out m hm'.out (by rw [eV'.out]; exact hVM))
            obtain ⟨⟨v0, o0, f0⟩, ⟨v1, o1, f1⟩, ⟨v2, o2, f2⟩, ⟨v3, o3, f3⟩⟩ := open_cells hS.out.op
            go_wp2_with fail
            rw [hO.out]
            refine ret_plane2 Try.results30 rfl rfl rfl hS.out.op ⟨bput4 (bthen hB'.out hS.out.pps.1.out) (by omega) _ _ _ _, rfl⟩
          · have hVM' : V ≤ M := by omega
            obtain ⟨t0, t1⟩ := place_bd (W := W) (H := H) (k := k + y) (i := j + x) (by omega) (by omega) (by omega) (by omega)
            obtain ⟨T, eT⟩ : ∃ T, ((k : Int) + y) * W = T := ⟨_, rfl⟩
            have eT' := Lib.hid eT
            rw [eT] at t0 t1
            obtain ⟨D, eD⟩ : ∃ D : Nat, T + j + x = D := ⟨(T + j + x).toNat, by omega⟩
            have hDl : D < L.length := by have := hlen.out; omega
            have hDR : D < R.length := by rw [hK.out.1.1]; exact hDl
            have hD1 : (D : Int) < R.length := by omega
            have hdc := hS.out.pix.cell hDR
            have hdf := hS.out.pix.frozen D
            obtain ⟨Z, eZ⟩ : ∃ Z, R.getD D 0 = Z := ⟨_, rfl⟩
            rw [eZ] at hdc
            have q3 := hS.out.q3
            have hS2 := Lib.hid (hS.out.store D V)
            have hK2 := Lib.hid (show Laid W L cw K x y (m + 1) (R.set D V) ∧ Under M K (m + 1) from
              ⟨by rw [← eV'.out]; exact laid_step hK.out.1 (v := k) hltI p1 p2 (by omega) emI'.out (by rw [eT'.out]; omega) hDl, under_step hK.out.2 (by rw [eV'.out]; exact hVM')⟩)
            have e1 : IntKind.i64.wrap ((k : Int) + y) = (k : Int) + y := IntWalk.i64_in _ (by omega)
            have e2 : IntKind.i64.wrap T = T := IntWalk.i64_in _ (by omega)
            have e3 : IntKind.i64.wrap (T + j) = T + j := IntWalk.i64_in _ (by omega)
            have e4 : IntKind.i64.wrap (D : Int) = D := IntWalk.i64_in _ (by omega)
            clear eZ hDl hDR
            go_wp2_with fail
            go_roundw
            case rel => exact ⟨j + 1, _, by omega, by go_num, Lib.hid (by rw [eSn'.out, ← Nat.add_assoc, emn'.out]; exact hK2.out), hS2⟩
            case measure => simp [intOf]; omega
        · obtain rfl : j = cw := by omega
          have s4 := hS.out.pps.2.2.2.2.2.1
          go_wp2_with fail
          go_roundw
          case rel => exact ⟨k + 1, R, by omega, by go_num, Lib.hid ⟨by rw [Nat.add_one_mul]; exact hK.out.1, by rw [Nat.add_one_mul]; exact hK.out.2⟩, hS⟩
          case measure => simp [intOf]; omega
    · obtain rfl : k = ch := by omega
      have s5 := hS.out.pps.2.2.2.2.2.2.1
      have hkk : k * cw = K.length := by rw [hlen2.out, Nat.mul_comm]
      rw [hkk] at hK
      have hO := Lib.hid (hOt.out hK.out.2)
      have hR := Lib.hid (laid_done hK.out.1)
      obtain ⟨q0, q1, q2, q3⟩ := And.intro hS.out.q0 (And.intro hS.out.q1 (And.intro hS.out.q2 hS.out.q3))
      obtain ⟨⟨v0, o0, f0⟩, ⟨v1, o1, f1⟩, ⟨v2, o2, f2⟩, ⟨v3, o3, f3⟩⟩ := open_cells hS.out.op
      clear hkk
      go_wp2_with fail
      rw [hO.out]
      refine ret_plane2 Try.results30 rfl rfl rfl hS.out.op ⟨bput4 (bthen hB'.out hS.out.pps.1.out) (by omega) _ _ _ _, g, gc, ?_, ?_⟩
      · rw [← hR.out]; rfl
      · rw [← hR.out]
        obtain ⟨g0, g1, g2, g3⟩ := hS.out.far
        exact (hS.out.pix.base (by omega)).grown (gput4 (gref _ (some (w.heap.size + 1 + 1))) (.inr rfl) _ _ _ _) (by simpa using g2)
theorem rblit_any (W H M : Int) (L : List Int) (a : Option Addr) (cap : Nat) (W2 H2 M2 : Int) (K : List Int) (a2 : Option Addr) (cap2 : Nat) (x y : Int) (w : World) (hs : SliceIs w a L) (hl : L.length ≤ 9223372036854775807) (hs2 : SliceIs w a2 K) (hl2 : K.length ≤ 9223372036854775807) :
    Calls Try.prog 30 #[.agg #[.int .i64 W, .int .i64 H, .int .i64 M, .slice a L.length cap], .agg #[.int .i64 W2, .int .i64 H2, .int .i64 M2, .slice a2 K.length cap2], .int .i64 x, .int .i64 y] w (PlanePost W H M (blitO W H M L W2 H2 M2 K x y) w) := by
  rcases hv : planeB W H M L with _ | _
  · exact rblit_1 W H M L a cap W2 H2 M2 K a2 cap2 x y w hs hl hv
  rcases hv2 : planeB W2 H2 M2 K with _ | _
  · exact rblit_2 W H M L a cap W2 H2 M2 K a2 cap2 x y w hs hl hs2 hl2 hv hv2
  obtain ⟨⟨c1, c2⟩, ⟨d1, d2⟩, _, _, _⟩ := sizeB_t.1 (planeB_t.1 hv2).1
  obtain ⟨cw, rfl⟩ : ∃ cw : Nat, W2 = cw := ⟨W2.toNat, by omega⟩
  obtain ⟨ch, rfl⟩ : ∃ ch : Nat, H2 = ch := ⟨H2.toNat, by omega⟩
  by_cases hp : placeOk W H cw ch x y
  · exact rblit_4 W H M L a cap cw ch M2 K a2 cap2 x y w hs hs2 hv hv2 hp
  · exact rblit_3 W H M L a cap cw ch M2 K a2 cap2 x y w hs hl hs2 hl2 hv hv2 hp
end Go.Proofs.Ytpmajophkhihlaa
