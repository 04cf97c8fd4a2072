/- For every list of numbers the statement PlaneShares returns true: crops and blits of made planes are new memory. No condition on the list. -/
import Derived.Test.YtpmajophkhihlaaPLawKit
namespace Go.Proofs.Ytpmajophkhihlaa
open Go.ChangeShapes Go.WideShapes Go.ChangeAt Go.RowKit
set_option linter.unusedVariables false
set_option linter.unusedSimpArgs false

set_option maxRecDepth 100000 in
set_option maxHeartbeats 4000000 in
theorem shares_walk (xs : List Int) (a0 : Option Addr) (cap : Nat) (w : World) (hs : SliceIs w a0 xs) (hf : Fits xs) (hl : xs.length ≤ 9223372036854775807) :
    Calls Try.prog 3 #[.slice a0 xs.length cap] w (TestPost true w) := by
  have hs' := Lib.hid hs
  have hf' := Lib.hid hf
  clear hs hf
  go_enter Try.func3, Try.ntmps3
  go_wp2_with fail
  refine (new_any a0 cap xs _ hs'.out hf'.out hl).mono ?_; rintro e w1 ⟨rfl, hT⟩
  have hS := Lib.hid (St.start hT)
  clear hT
  go_wp2_with fail
  refine (next_some w w.heap.size a0 cap xs _ _ hS.out.tape (by omega) (by omega)).mono ?_; rintro e w2 ⟨x, rfl, ⟨x0, x1⟩, hT, hg⟩
  replace hS := Lib.hid (hS.out.draw hT hg)
  clear hT hg
  go_wp2_with fail
  refine (next_some w w.heap.size a0 cap xs _ _ hS.out.tape (by omega) (by omega)).mono ?_; rintro e w3 ⟨y, rfl, ⟨y0, y1⟩, hT, hg⟩
  replace hS := Lib.hid (hS.out.draw hT hg)
  clear hT hg
  go_wp2_with fail
  obtain ⟨c, ec⟩ : ∃ c, 2 + x = c := ⟨_, rfl⟩
  obtain ⟨h, eh⟩ : ∃ h, 2 + y = h := ⟨_, rfl⟩
  have hc : 2 ≤ c ∧ c ≤ 5 := by omega
  have hh : 2 ≤ h ∧ h ≤ 5 := by omega
  simp only [ec, eh]
  clear ec eh x0 x1 y0 y1
  refine (sized_int w w.heap.size a0 cap xs c h _ hS.out.tape (by omega) (by omega) (by omega) (by omega)).mono ?_; rintro e w4 ⟨m, g, L, rfl, hv, hm, hP, hT, hg⟩
  replace hS := Lib.hid ((hS.out.drawn hP hT hg).new (.int .i64 c) (.int .i64 h) (.int .i64 m) (.slice (some ⟨g, 0, none⟩) L.length L.length) 26)
  have hv' := Lib.hid hv
  clear hP hT hg hv
  go_wp2_with fail
  refine (sized_int w w.heap.size a0 cap xs 1 1 _ hS.out.tape (by omega) (by omega) (by omega) (by omega)).mono ?_; rintro e w5 ⟨m2, g2, L2, rfl, hv2, hm2, hP, hT, hg⟩
  replace hS := Lib.hid ((hS.out.drawn hP hT hg).new (.int .i64 1) (.int .i64 1) (.int .i64 m2) (.slice (some ⟨g2, 0, none⟩) L2.length L2.length) 26)
  have hv2' := Lib.hid hv2
  clear hP hT hg hv2
  obtain ⟨p0, p1, p2, p3⟩ := hS.out.en.box w4.heap.size (v0 := .int .i64 c) (v1 := .int .i64 h) (v2 := .int .i64 m) (v3 := .slice (some ⟨g, 0, none⟩) L.length L.length) (by simp)
  have hL := Lib.hid (plane_len hv'.out)
  have hL1 := Lib.hid (plane_pos hv'.out)
  have hLb := Lib.hid (plane_len hv2'.out)
  have hLb1 := Lib.hid (plane_pos hv2'.out)
  go_wp2_with fail
  refine (rcopy_v _ _ _ L _ _ _ (hS.out.en.isS g L.length (by simp)) hL1.out (by have := hL.out; omega)).mono ?_; rintro e w6 ⟨g3, c3, rfl, hP, hb⟩
  replace hS := Lib.hid ((hS.out.made hP hb).new (.int .i64 c) (.int .i64 h) (.int .i64 m) (.slice (some ⟨g3, 0, none⟩) L.length c3) 26)
  clear hP hb p0 p1 p2 p3
  obtain ⟨p0, p1, p2, p3⟩ := hS.out.en.box w4.heap.size (v0 := .int .i64 c) (v1 := .int .i64 h) (v2 := .int .i64 m) (v3 := .slice (some ⟨g, 0, none⟩) L.length L.length) (by simp)
  go_wp2_with fail
  refine (within_some w w.heap.size a0 cap xs c h _ hS.out.tape (by omega) (by omega) (by omega) (by omega)).mono ?_; rintro e w7 ⟨r0, r1, r2, r3, rfl, hx, hy, hT, hg⟩
  replace hS := Lib.hid ((hS.out.draw hT hg).new (.int .i64 r0) (.int .i64 r1) (.int .i64 r2) (.int .i64 r3) 31)
  clear hT hg p0 p1 p2 p3
  obtain ⟨p0, p1, p2, p3⟩ := hS.out.en.box w4.heap.size (v0 := .int .i64 c) (v1 := .int .i64 h) (v2 := .int .i64 m) (v3 := .slice (some ⟨g, 0, none⟩) L.length L.length) (by simp)
  have hok := Lib.hid (crop_ok hv'.out hx hy)
  obtain ⟨cw, ecw⟩ : ∃ cw, r2 - r0 = cw := ⟨_, rfl⟩
  obtain ⟨ch, ech⟩ : ∃ ch, r3 - r1 = ch := ⟨_, rfl⟩
  obtain ⟨C, eC⟩ : ∃ C, cropL c L r0 r1 r2 r3 = C := ⟨_, rfl⟩
  have hvC := crop_plane hok.out
  have hpl := crop_place hok.out
  rw [ecw, ech, eC] at hvC
  rw [ecw, ech] at hpl
  have hCw := Lib.hid ecw
  have hCh := Lib.hid ech
  have hC := Lib.hid eC
  have hvC' := Lib.hid hvC
  have hpl' := Lib.hid hpl
  clear ecw ech eC hvC hpl
  have hcL := Lib.hid (hS.out.en.pix g L.length (L := L) (by simp)).cap
  go_wp2_with fail
  refine (crop_v _ _ _ hok.out hCw.out hCh.out hC.out (hS.out.en.isS g L.length (by simp)) hcL.out).mono ?_; rintro e w8 ⟨g4, c4, rfl, hP, hb⟩
  have hcC := Lib.hid hP.cap
  replace hS := Lib.hid ((hS.out.made hP hb).new (.int .i64 cw) (.int .i64 ch) (.int .i64 m) (.slice (some ⟨g4, 0, none⟩) C.length c4) 26)
  clear hP hb p0 p1 p2 p3
  go_upto_region 7 with fail
  obtain ⟨wx, ewx⟩ : ∃ wx, (w8.alloc (.cells #[.int .i64 cw, .int .i64 ch, .int .i64 m, .slice (some ⟨g4, 0, none⟩) C.length c4] 26)) = wx := ⟨_, rfl⟩
  rw [ewx] at hS
  simp only [ewx]
  clear ewx
  obtain ⟨l, el⟩ : ∃ l, [Th.box w8.heap.size (.int .i64 cw) (.int .i64 ch) (.int .i64 m) (.slice (some ⟨g4, 0, none⟩) C.length c4), .pix g4 c4 C, .box w7.heap.size (.int .i64 r0) (.int .i64 r1) (.int .i64 r2) (.int .i64 r3), .box w6.heap.size (.int .i64 c) (.int .i64 h) (.int .i64 m) (.slice (some ⟨g3, 0, none⟩) L.length c3), .pix g3 c3 L,
    .box w5.heap.size (.int .i64 1) (.int .i64 1) (.int .i64 m2) (.slice (some ⟨g2, 0, none⟩) L2.length L2.length), .pix g2 L2.length L2, .box w4.heap.size (.int .i64 c) (.int .i64 h) (.int .i64 m) (.slice (some ⟨g, 0, none⟩) L.length L.length), .pix g L.length L] = l := ⟨_, rfl⟩
  rw [el] at hS
  have hwx := Lib.hid (hS.out.call (bdrewN (bref _) 1))
  have hO : Box3 w w.heap.size a0 cap xs l w4.heap.size (.int .i64 c) (.int .i64 h) (.int .i64 m) (.slice (some ⟨g, 0, none⟩) L.length L.length) w8.heap.size (.int .i64 cw) (.int .i64 ch) (.int .i64 m) (.slice (some ⟨g4, 0, none⟩) C.length c4) w7.heap.size (.int .i64 r0) (.int .i64 r1) (.int .i64 r2) (.int .i64 r3) wx.drew := box3_of hwx.out (by rw [← el]; simp) (by rw [← el]; simp) (by rw [← el]; simp)
  have hmL := Lib.hid (show Th.pix g L.length L ∈ l by rw [← el]; simp)
  have hmC := Lib.hid (show Th.pix g4 c4 C ∈ l by rw [← el]; simp)
  have hN := Lib.hid (show ∀ x ∈ l, x.blk < wx.heap.size from hwx.out.en.lt)
  have hWx := Lib.hid (show w.heap.size < wx.heap.size ∧ w.heap.size ≤ wx.heap.size from ⟨hwx.out.tape.lt.1, hwx.out.tape.lt.2.2⟩)
  have hBl := Lib.hid (blit_crop hok.out)
  rw [hCw.out, hC.out] at hBl
  have hun := Lib.hid (plane_under hvC'.out)
  have hC1 := Lib.hid (plane_pos hvC'.out)
  have hC2 := Lib.hid (plane_len hvC'.out)
  have el' := Lib.hid el
  clear el hS
  go_cut [10, 11] (fun q t wy => ∃ b g6 c6, q = .pointer (some ⟨b, 0, none⟩) ∧ t = .bool true ∧ Hid (St w w.heap.size a0 cap xs (.box b (.int .i64 c) (.int .i64 h) (.int .i64 m) (.slice (some ⟨g6, 0, none⟩) L.length c6) :: .pix g6 c6 L :: l) wy))
  case first =>
    first | go_must (go_region_held3 (fun w' => Box3 w w.heap.size a0 cap xs l w4.heap.size (.int .i64 c) (.int .i64 h) (.int .i64 m) (.slice (some ⟨g, 0, none⟩) L.length L.length) w8.heap.size (.int .i64 cw) (.int .i64 ch) (.int .i64 m) (.slice (some ⟨g4, 0, none⟩) C.length c4) w7.heap.size (.int .i64 r0) (.int .i64 r1) (.int .i64 r2) (.int .i64 r3) w') ((first | with_reducible exact hO | with_reducible exact box3_below hb ‹_› | with_reducible exact box3_below hb5 ‹_› | with_reducible exact box3_below (balloc (bref _) _) ‹_› | with_reducible exact box3_below (balloc (bref _) _) hS5.out | with_reducible exact box3_put hN.out hz4 hWx.out hS5.out _ _ _ _ | with_reducible exact box3_put hN.out (Nat.le_refl _) hWx.out hS5.out _ _ _ _))
      (first
        | (go_at_call 11; refine (rcopy_v cw ch m C _ _ _ ((‹Box3 w w.heap.size a0 cap xs l w4.heap.size (.int .i64 c) (.int .i64 h) (.int .i64 m) (.slice (some ⟨g, 0, none⟩) L.length L.length) w8.heap.size (.int .i64 cw) (.int .i64 ch) (.int .i64 m) (.slice (some ⟨g4, 0, none⟩) C.length c4) w7.heap.size (.int .i64 r0) (.int .i64 r1) (.int .i64 r2) (.int .i64 r3) _›).1.out.1.en.isS g4 c4 hmC.out) hC1.out (by have := hC2.out; omega)).mono ?_; rintro e wy ⟨g5, c5, rfl, hP4, hb⟩; have hcy := Lib.hid hP4.cap)
        | (go_at_call 14; refine (blit_v _ _ _ _ _ hv'.out hvC'.out hpl'.out hun.out hBl.out ((‹Box3 w w.heap.size a0 cap xs l w4.heap.size (.int .i64 c) (.int .i64 h) (.int .i64 m) (.slice (some ⟨g, 0, none⟩) L.length L.length) w8.heap.size (.int .i64 cw) (.int .i64 ch) (.int .i64 m) (.slice (some ⟨g4, 0, none⟩) C.length c4) w7.heap.size (.int .i64 r0) (.int .i64 r1) (.int .i64 r2) (.int .i64 r3) _›).1.out.1.en.isS g L.length hmL.out) (by first | exact hP4.isS | exact is_below hP4.isS (balloc (bref _) _)) hcL.out hcy.out).mono ?_; rintro e wz ⟨g6, c6, rfl, hP5, hb5⟩; have hS5 := Lib.hid (box3_below hb5 (‹Box3 w w.heap.size a0 cap xs l w4.heap.size (.int .i64 c) (.int .i64 h) (.int .i64 m) (.slice (some ⟨g, 0, none⟩) L.length L.length) w8.heap.size (.int .i64 cw) (.int .i64 ch) (.int .i64 m) (.slice (some ⟨g4, 0, none⟩) C.length c4) w7.heap.size (.int .i64 r0) (.int .i64 r1) (.int .i64 r2) (.int .i64 r3) _›));
            have hz4 : wx.heap.size ≤ wy.heap.size := (by first | exact hb.size | exact Nat.le_of_succ_le (by simpa using hb.size));
            (first
              | (have hop := Lib.hid (Open4.below (open_new0 26 (.int .i64 0) (.int .i64 0) (.int .i64 0) (.slice none 0 0) wy) hb5))
              | (have hop := Lib.hid (show Open4 wz wx.heap.size from Open4.below (Open4.below (open_new0 26 (.int .i64 0) (.int .i64 0) (.int .i64 0) (.slice none 0 0) wx.drew) hb) hb5))
              | (have hop := Lib.hid (open_new0 26 (.int .i64 0) (.int .i64 0) (.int .i64 0) (.slice none 0 0) wz)));
            have hcc := open_val hop.out; have hc0 := hcc 0 (by omega); have hc1 := hcc 1 (by omega); have hc2 := hcc 2 (by omega); have hc3 := hcc 3 (by omega); clear hcc;
            have hf0 := (hop.out 0 (by omega)).2; have hf1 := (hop.out 1 (by omega)).2; have hf2 := (hop.out 2 (by omega)).2; have hf3 := (hop.out 3 (by omega)).2))) | skip
    all_goals
      go_wp2_with fail
      go_meet
      first
        | exact ⟨_, g6, c6, rfl, rfl, Lib.hid (St.var2 (t := 26) hwx.out (open_new0 26 (.int .i64 0) (.int .i64 0) (.int .i64 0) (.slice none 0 0)) (.inl ⟨hb, hb5, hP5, rfl, rfl⟩))⟩
        | exact ⟨_, g6, c6, rfl, rfl, Lib.hid (St.var2 (t := 26) hwx.out (open_new0 26 (.int .i64 0) (.int .i64 0) (.int .i64 0) (.slice none 0 0)) (.inr (.inl ⟨hb, hb5, hP5, rfl, rfl⟩)))⟩
        | exact ⟨_, g6, c6, rfl, rfl, Lib.hid (St.var2 (t := 26) hwx.out (open_new0 26 (.int .i64 0) (.int .i64 0) (.int .i64 0) (.slice none 0 0)) (.inr (.inr ⟨hb, hb5, hP5, rfl, rfl⟩)))⟩
  case rest =>
    obtain ⟨b, g6, c6, rfl, rfl, hS⟩ := hcut
    rw [← el'.out] at hS
    clear hO hmL hmC hN hWx hBl hun el' hwx
    obtain ⟨q0, q1, q2, q3⟩ := hS.out.en.box w5.heap.size (v0 := .int .i64 1) (v1 := .int .i64 1) (v2 := .int .i64 m2) (v3 := .slice (some ⟨g2, 0, none⟩) L2.length L2.length) (by simp)
    have hcq := Lib.hid (hS.out.en.pix g2 L2.length (L := L2) (by simp)).cap
    obtain ⟨R, eR⟩ : ∃ R, blitL 1 L2 1 L2 0 0 = R := ⟨_, rfl⟩
    have hR := Lib.hid eR
    have hRl := Lib.hid (show R.length ≤ 4096 by rw [← eR, blitL_len]; exact hLb.out)
    clear eR
    go_wp2_with fail
    refine (blit_v _ _ _ _ _ hv2'.out hv2'.out (by unfold placeOk; omega) (plane_under hv2'.out) hR.out (hS.out.en.isS g2 L2.length (by simp)) (hS.out.en.isS g2 L2.length (by simp)) hcq.out hcq.out).mono ?_; rintro e wq ⟨g7, c7, rfl, hP, hb⟩
    replace hS := Lib.hid ((hS.out.made hP hb).new (.int .i64 1) (.int .i64 1) (.int .i64 m2) (.slice (some ⟨g7, 0, none⟩) R.length c7) 26)
    clear hP hb q0 q1 q2 q3
    replace hS := Lib.hid (hS.out.pull 5 rfl rfl)
    have hC4 := hC2.out
    have hR4 := hRl.out
    have hL4 := hL.out
    go_wp2_with fail
    go_loopw [14] (fun i wr => ∃ (k : Nat) (K : List Int), k ≤ C.length ∧ i = .int .i64 k ∧ Hid (K.length = C.length) ∧ Hid (St w w.heap.size a0 cap xs (.pix g4 c4 K :: _) wr)) (fun i _ => C.length - (intOf i).toNat)
    case atStart => exact ⟨0, C, by omega, rfl, Lib.hid rfl, hS⟩
    case round =>
      clear hS
      obtain ⟨k, K, hk, rfl, hKl, hS⟩ := hrel
      by_cases hlt : k < C.length
      · have hkI : (k : Int) < C.length := by omega
        obtain ⟨q0, q1, q2, q3⟩ := hS.out.en.box w8.heap.size (v0 := .int .i64 cw) (v1 := .int .i64 ch) (v2 := .int .i64 m) (v3 := .slice (some ⟨g4, 0, none⟩) C.length c4) (by simp)
        have hpx := hS.out.en.pix g4 c4 (L := K) (by simp)
        have hce := hpx.cell (k := k) (by rw [hKl.out]; exact hlt)
        have hfr := hpx.frozen k
        have hS2 := Lib.hid (hS.out.store k (-1))
        have hK2 := Lib.hid (show (K.set k (-1)).length = C.length by rw [List.length_set]; exact hKl.out)
        clear hpx
        go_wp2_with fail
        go_roundw
        case rel => exact ⟨k + 1, _, by omega, by go_num, hK2, hS2⟩
        case measure => simp [intOf]; omega
      · obtain rfl : k = C.length := by omega
        obtain ⟨q0, q1, q2, q3⟩ := hS.out.en.box w8.heap.size (v0 := .int .i64 cw) (v1 := .int .i64 ch) (v2 := .int .i64 m) (v3 := .slice (some ⟨g4, 0, none⟩) C.length c4) (by simp)
        replace hS := Lib.hid (hS.out.pull 4 rfl rfl)
        go_wp2_with fail
        clear q0 q1 q2 q3
        go_loopw [15] (fun i wr => ∃ (k : Nat) (K2 : List Int), k ≤ L.length ∧ i = .int .i64 k ∧ Hid (K2.length = L.length) ∧ Hid (St w w.heap.size a0 cap xs (.pix g6 c6 K2 :: _) wr)) (fun i _ => L.length - (intOf i).toNat)
        case atStart => exact ⟨0, L, by omega, rfl, Lib.hid rfl, hS⟩
        case round =>
          clear hS
          obtain ⟨k, K2, hk, rfl, hKl, hS⟩ := hrel
          by_cases hlt : k < L.length
          · have hkI : (k : Int) < L.length := by omega
            obtain ⟨q0, q1, q2, q3⟩ := hS.out.en.box b (v0 := .int .i64 c) (v1 := .int .i64 h) (v2 := .int .i64 m) (v3 := .slice (some ⟨g6, 0, none⟩) L.length c6) (by simp)
            have hpx := hS.out.en.pix g6 c6 (L := K2) (by simp)
            have hce := hpx.cell (k := k) (by rw [hKl.out]; exact hlt)
            have hfr := hpx.frozen k
            have hS2 := Lib.hid (hS.out.store k (-1))
            have hK2 := Lib.hid (show (K2.set k (-1)).length = L.length by rw [List.length_set]; exact hKl.out)
            clear hpx
            go_wp2_with fail
            go_roundw
            case rel => exact ⟨k + 1, _, by omega, by go_num, hK2, hS2⟩
            case measure => simp [intOf]; omega
          · obtain rfl : k = L.length := by omega
            obtain ⟨q0, q1, q2, q3⟩ := hS.out.en.box b (v0 := .int .i64 c) (v1 := .int .i64 h) (v2 := .int .i64 m) (v3 := .slice (some ⟨g6, 0, none⟩) L.length c6) (by simp)
            replace hS := Lib.hid (hS.out.pull 3 rfl rfl)
            go_wp2_with fail
            clear q0 q1 q2 q3
            go_loopw [16] (fun i wr => ∃ (k : Nat) (K3 : List Int), k ≤ R.length ∧ i = .int .i64 k ∧ Hid (K3.length = R.length) ∧ Hid (St w w.heap.size a0 cap xs (.pix g7 c7 K3 :: _) wr)) (fun i _ => R.length - (intOf i).toNat)
            case atStart => exact ⟨0, R, by omega, rfl, Lib.hid rfl, hS⟩
            case round =>
              clear hS
              obtain ⟨k, K3, hk, rfl, hKl, hS⟩ := hrel
              by_cases hlt : k < R.length
              · have hkI : (k : Int) < R.length := by omega
                obtain ⟨q0, q1, q2, q3⟩ := hS.out.en.box wq.heap.size (v0 := .int .i64 1) (v1 := .int .i64 1) (v2 := .int .i64 m2) (v3 := .slice (some ⟨g7, 0, none⟩) R.length c7) (by simp)
                have hpx := hS.out.en.pix g7 c7 (L := K3) (by simp)
                have hce := hpx.cell (k := k) (by rw [hKl.out]; exact hlt)
                have hfr := hpx.frozen k
                have hS2 := Lib.hid (hS.out.store k (-1))
                have hK2 := Lib.hid (show (K3.set k (-1)).length = R.length by rw [List.length_set]; exact hKl.out)
                clear hpx
                go_wp2_with fail
                go_roundw
                case rel => exact ⟨k + 1, _, by omega, by go_num, hK2, hS2⟩
                case measure => simp [intOf]; omega
              · obtain rfl : k = R.length := by omega
                obtain ⟨q0, q1, q2, q3⟩ := hS.out.en.box wq.heap.size (v0 := .int .i64 1) (v1 := .int .i64 1) (v2 := .int .i64 m2) (v3 := .slice (some ⟨g7, 0, none⟩) R.length c7) (by simp)
                obtain ⟨p0, p1, p2, p3⟩ := hS.out.en.box w4.heap.size (v0 := .int .i64 c) (v1 := .int .i64 h) (v2 := .int .i64 m) (v3 := .slice (some ⟨g, 0, none⟩) L.length L.length) (by simp)
                obtain ⟨s0, s1, s2, s3⟩ := hS.out.en.box w7.heap.size (v0 := .int .i64 r0) (v1 := .int .i64 r1) (v2 := .int .i64 r2) (v3 := .int .i64 r3) (by simp)
                go_wp2_with fail
                refine (crop_v _ _ _ hok.out hCw.out hCh.out hC.out (hS.out.en.isS g L.length (by simp)) hcL.out).mono ?_; rintro e wd ⟨g9, c9, rfl, hP, hb⟩
                replace hS := Lib.hid ((hS.out.made hP hb).new (.int .i64 cw) (.int .i64 ch) (.int .i64 m) (.slice (some ⟨g9, 0, none⟩) C.length c9) 26)
                clear hP hb p0 p1 p2 p3 q0 q1 q2 q3 s0 s1 s2 s3
                obtain ⟨p0, p1, p2, p3⟩ := hS.out.en.box w4.heap.size (v0 := .int .i64 c) (v1 := .int .i64 h) (v2 := .int .i64 m) (v3 := .slice (some ⟨g, 0, none⟩) L.length L.length) (by simp)
                obtain ⟨q0, q1, q2, q3⟩ := hS.out.en.box w6.heap.size (v0 := .int .i64 c) (v1 := .int .i64 h) (v2 := .int .i64 m) (v3 := .slice (some ⟨g3, 0, none⟩) L.length c3) (by simp)
                go_wp2_with fail
                refine (equal_self _ _ _ L _ _ _ _ _ (hS.out.en.isS g L.length (by simp)) (hS.out.en.isS g3 c3 (by simp)) (by omega)).mono ?_; rintro e we ⟨rfl, hb⟩
                replace hS := Lib.hid (hS.out.call hb)
                clear hb p0 p1 p2 p3 q0 q1 q2 q3
                obtain ⟨q0, q1, q2, q3⟩ := hS.out.en.box w5.heap.size (v0 := .int .i64 1) (v1 := .int .i64 1) (v2 := .int .i64 m2) (v3 := .slice (some ⟨g2, 0, none⟩) L2.length L2.length) (by simp)
                go_wp2_with fail
                refine (rpvalid_is hv2'.out _ _ _ (hS.out.en.isS g2 L2.length (by simp)) (by have := hLb.out; omega)).mono ?_; rintro e wf ⟨rfl, hb⟩
                replace hS := Lib.hid (hS.out.call hb)
                clear hb q0 q1 q2 q3
                obtain ⟨q0, q1, q2, q3⟩ := hS.out.en.box wd.heap.size (v0 := .int .i64 cw) (v1 := .int .i64 ch) (v2 := .int .i64 m) (v3 := .slice (some ⟨g9, 0, none⟩) C.length c9) (by simp)
                go_wp2_with fail
                refine (pvalid_is hvC'.out _ _ _ (hS.out.en.isS g9 c9 (by simp)) (by omega)).mono ?_; rintro e wg ⟨rfl, hb⟩
                replace hS := Lib.hid (hS.out.call hb)
                clear hb q0 q1 q2 q3
                go_wp2_with fail
                refine (sane_any _).mono ?_; rintro e wh ⟨rfl, hb⟩
                go_wp2_with fail
                go_ret
                exact ⟨rfl, bthen hS.out.below hb⟩

namespace planeShares
theorem own : ownKnob Try.prog.godebug = none := by kernel_rfl
theorem laid : laidOutB Try.prog = true := by kernel_rfl
theorem params_ok : ∀ t ∈ Try.f3.params.toList, Try.prog.readableRec t = true ∧ t < Try.prog.types.size := by
  rw [Try.params3]
  intro t ht
  simp at ht
  subst ht
  exact ⟨by kernel_rfl, of_decide_eq_true (by kernel_rfl)⟩
set_option maxRecDepth 100000 in
theorem lifted (os : Os) (started : os.Started) (H : Type) (enc : TypeId × Value → H) :
    ReturnsInHanded {} Try.checked os 3 .any (Rows.planeSharesSpec.pre6 enc Try.prog Try.f3 Rows.planeSharesRow.domain false) (Rows.planeSharesSpec.post enc Try.prog Try.f3 false true false false) := by
  refine returnsInHanded_of_change (C := Try.checked) own started (by kernel_rfl) Try.func3
    (ChangeSpec.witness6 (enc := enc) (C := Try.checked) false ⟨#[], #[.slice none 0 0], []⟩ 8 (by kernel_rfl) (by kernel_rfl) (by kernel_rfl) (by kernel_rfl)) ?_
  intro W base args ds gs before hval0 hW hcnd _
  have hval : ∀ (j : Nat) t v, Try.f3.params[j]? = some t → args[j]? = some v → Value.okWide Try.prog W .any base t v := hval0
  have hW' := hW
  obtain ⟨p, q, hA0, hV, rfl, hfz, hnd⟩ := hW
  have hA : DataW.TrodAll enc Try.prog W 0 (fun _ => true) true Try.f3.params.toList args.toList ds p := hA0
  rw [Try.params3] at hA hval
  obtain ⟨v0, vs0, d0, ds0, p0, q0, hargs, rfl, rfl, h0, r0⟩ := trodAll_cons hA
  obtain ⟨rfl, rfl, rfl⟩ := trodAll_nil r0
  obtain rfl : args = #[v0] := by cases args; simp_all
  obtain ⟨rfl, rfl⟩ := trodVars_none hV
  obtain ⟨a0, len, cap, rfl⟩ := okWide_slice Try.underlying22 (hval 0 22 v0 rfl rfl)
  obtain ⟨xs, rfl, hs, hf, hl⟩ := open_list h0
  clear hA0 hval0
  have fin : Calls Try.prog 3 #[.slice a0 xs.length cap] W (TestPost true W) := shares_walk xs a0 cap W hs hf hl
  refine fin.mono fun e W' ⟨he, hb⟩ => ?_
  subst he
  exact ⟨_, rfl, law_post laid rfl Try.underlying4 params_ok rfl hW' rfl hb⟩

theorem over : Rows.planeSharesRow.holds Try.pinned (OpenSpec.ofChange Rows.planeSharesSpec) :=
  OpenClaim.holds_of_wide 3 Try.f3 rfl rfl rfl rfl rfl rfl rfl ⟨rfl, rfl, rfl, rfl, rfl⟩ rfl rfl rfl rfl rfl (by kernel_rfl) Try.func3 (by kernel_rfl)
    (of_decide_eq_true (by kernel_rfl)) (by unfold Func.isWrapper; first | (rw [if_pos (by decide +kernel)]; kernel_rfl) | (rw [if_neg (by decide +kernel)]; exact ⟨rfl, rfl⟩))
    (fun os started H enc _ => lifted os started H enc)

/-- the statement -/
theorem proved : Rows.PlaneSharesSaid := over
#print axioms proved
end planeShares
end Go.Proofs.Ytpmajophkhihlaa
