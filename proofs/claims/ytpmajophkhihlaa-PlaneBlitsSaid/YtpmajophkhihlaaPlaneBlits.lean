/- For every list of numbers and every number the statement PlaneBlits returns true: what was blitted is cropped back, a crop at its place changes nothing, other pixels stay. No condition. -/
import Derived.Test.YtpmajophkhihlaaPLawKit
namespace Go.Proofs.Ytpmajophkhihlaa
open Go.ChangeShapes Go.WideShapes Go.ChangeAt Go.RowKit
set_option linter.unusedVariables false
set_option linter.unusedSimpArgs false

set_option maxRecDepth 100000 in
set_option maxHeartbeats 4000000 in
theorem blits_walk (xs : List Int) (a0 : Option Addr) (cap : Nat) (q : Int) (w : World) (hs : SliceIs w a0 xs) (hf : Fits xs) (hl : xs.length ≤ 9223372036854775807) (hq0 : -9223372036854775808 ≤ q) (hq1 : q ≤ 9223372036854775807) :
    Calls Try.prog 7 #[.slice a0 xs.length cap, .int .i64 q] w (TestPost true w) := by
  have hs' := Lib.hid hs
  have hf' := Lib.hid hf
  clear hs hf
  go_enter Try.func7, Try.ntmps7
  go_wp2_with fail
  refine (new_any a0 cap xs _ hs'.out hf'.out hl).mono ?_; rintro e w1 ⟨rfl, hT⟩
  have hS := Lib.hid (St.start hT)
  clear hT
  go_wp2_with fail
  refine (next_some w w.heap.size a0 cap xs _ _ hS.out.tape (by omega) (by omega)).mono ?_; rintro e w2 ⟨x, rfl, ⟨x0, x1⟩, hT, hg⟩
  replace hS := Lib.hid (hS.out.draw hT hg)
  clear hT hg
  go_wp2_with fail
  refine (next_some w w.heap.size a0 cap xs _ _ hS.out.tape (by omega) (by omega)).mono ?_; rintro e w3 ⟨y, rfl, ⟨y0, y1⟩, hT, hg⟩
  replace hS := Lib.hid (hS.out.draw hT hg)
  clear hT hg
  go_wp2_with fail
  obtain ⟨c, ec⟩ : ∃ c, 2 + x = c := ⟨_, rfl⟩
  obtain ⟨h, eh⟩ : ∃ h, 2 + y = h := ⟨_, rfl⟩
  have hc : 2 ≤ c ∧ c ≤ 6 := by omega
  have hh : 2 ≤ h ∧ h ≤ 5 := by omega
  simp only [ec, eh]
  clear ec eh x0 x1 y0 y1
  refine (sized_int w w.heap.size a0 cap xs c h _ hS.out.tape (by omega) (by omega) (by omega) (by omega)).mono ?_; rintro e w4 ⟨m, g, L, rfl, hv, hm, hP, hT, hg⟩
  replace hS := Lib.hid ((hS.out.drawn hP hT hg).new (.int .i64 c) (.int .i64 h) (.int .i64 m) (.slice (some ⟨g, 0, none⟩) L.length L.length) 26)
  have hv' := Lib.hid hv
  clear hP hT hg hv
  go_wp2_with fail
  have hL := Lib.hid (plane_len hv'.out)
  have hL1 := Lib.hid (plane_pos hv'.out)
  obtain ⟨p0, p1, p2, p3⟩ := hS.out.en.box w4.heap.size (v0 := .int .i64 c) (v1 := .int .i64 h) (v2 := .int .i64 m) (v3 := .slice (some ⟨g, 0, none⟩) L.length L.length) (by simp)
  go_wp2_with fail
  refine (within_some w w.heap.size a0 cap xs c h _ hS.out.tape (by omega) (by omega) (by omega) (by omega)).mono ?_; rintro e w5 ⟨r0, r1, r2, r3, rfl, hx, hy, hT, hg⟩
  replace hS := Lib.hid ((hS.out.draw hT hg).new (.int .i64 r0) (.int .i64 r1) (.int .i64 r2) (.int .i64 r3) 31)
  clear hT hg p0 p1 p2 p3
  obtain ⟨p0, p1, p2, p3⟩ := hS.out.en.box w4.heap.size (v0 := .int .i64 c) (v1 := .int .i64 h) (v2 := .int .i64 m) (v3 := .slice (some ⟨g, 0, none⟩) L.length L.length) (by simp)
  have hok := Lib.hid (crop_ok hv'.out hx hy)
  obtain ⟨cw, ecw⟩ : ∃ cw, r2 - r0 = cw := ⟨_, rfl⟩
  obtain ⟨ch, ech⟩ : ∃ ch, r3 - r1 = ch := ⟨_, rfl⟩
  obtain ⟨C, eC⟩ : ∃ C, cropL c L r0 r1 r2 r3 = C := ⟨_, rfl⟩
  have hvC := crop_plane hok.out
  have hpl := crop_place hok.out
  have hBl := Lib.hid (blit_crop hok.out)
  rw [ecw, ech, eC] at hvC
  rw [ecw, ech] at hpl
  rw [ecw, eC] at hBl
  have hCw := Lib.hid ecw
  have hCh := Lib.hid ech
  have hC := Lib.hid eC
  have hvC' := Lib.hid hvC
  have hpl' := Lib.hid hpl
  have hun := Lib.hid (plane_under hvC)
  clear ecw ech eC hvC hpl
  have hcL := Lib.hid (hS.out.en.pix g L.length (L := L) (by simp)).cap
  go_wp2_with fail
  refine (crop_v _ _ _ hok.out hCw.out hCh.out hC.out (hS.out.en.isS g L.length (by simp)) hcL.out).mono ?_; rintro e w8 ⟨g4, c4, rfl, hP, hb⟩
  have hcC := Lib.hid hP.cap
  replace hS := Lib.hid ((hS.out.made hP hb).new (.int .i64 cw) (.int .i64 ch) (.int .i64 m) (.slice (some ⟨g4, 0, none⟩) C.length c4) 26)
  clear hP hb p0 p1 p2 p3
  obtain ⟨p0, p1, p2, p3⟩ := hS.out.en.box w4.heap.size (v0 := .int .i64 c) (v1 := .int .i64 h) (v2 := .int .i64 m) (v3 := .slice (some ⟨g, 0, none⟩) L.length L.length) (by simp)
  obtain ⟨q0, q1, q2, q3⟩ := hS.out.en.box w8.heap.size (v0 := .int .i64 cw) (v1 := .int .i64 ch) (v2 := .int .i64 m) (v3 := .slice (some ⟨g4, 0, none⟩) C.length c4) (by simp)
  obtain ⟨s0, s1, s2, s3⟩ := hS.out.en.box w5.heap.size (v0 := .int .i64 r0) (v1 := .int .i64 r1) (v2 := .int .i64 r2) (v3 := .int .i64 r3) (by simp)
  go_wp2_with fail
  refine (blit_v _ _ _ _ _ hv'.out hvC'.out hpl'.out hun.out hBl.out (hS.out.en.isS g L.length (by simp)) (hS.out.en.isS g4 c4 (by simp)) hcL.out hcC.out).mono ?_; rintro e w9 ⟨g5, c5, rfl, hP, hb⟩
  replace hS := Lib.hid ((hS.out.made hP hb).new (.int .i64 c) (.int .i64 h) (.int .i64 m) (.slice (some ⟨g5, 0, none⟩) L.length c5) 26)
  clear hP hb p0 p1 p2 p3 q0 q1 q2 q3 s0 s1 s2 s3
  obtain ⟨p0, p1, p2, p3⟩ := hS.out.en.box w4.heap.size (v0 := .int .i64 c) (v1 := .int .i64 h) (v2 := .int .i64 m) (v3 := .slice (some ⟨g, 0, none⟩) L.length L.length) (by simp)
  obtain ⟨q0, q1, q2, q3⟩ := hS.out.en.box w9.heap.size (v0 := .int .i64 c) (v1 := .int .i64 h) (v2 := .int .i64 m) (v3 := .slice (some ⟨g5, 0, none⟩) L.length c5) (by simp)
  go_wp2_with fail
  refine (equal_self _ _ _ L _ _ _ _ _ (hS.out.en.isS g5 c5 (by simp)) (hS.out.en.isS g L.length (by simp)) (by have := hL.out; omega)).mono ?_; rintro e w10 ⟨rfl, hb⟩
  replace hS := Lib.hid (hS.out.call hb)
  clear hb p0 p1 p2 p3 q0 q1 q2 q3 hBl hun
  have hSp := hS.out.pull 3 rfl rfl
  simp only [List.eraseIdx_cons_succ, List.eraseIdx_cons_zero] at hSp
  replace hS := Lib.hid hSp
  clear hSp
  have hC4 := plane_len hvC'.out
  go_wp2_with fail
  go_loopw [12] (fun i wr => ∃ (k : Nat) (K : List Int), k ≤ C.length ∧ i = .int .i64 k ∧ Hid (K.length = C.length ∧ planeB cw ch m K = true) ∧ Hid (St w w.heap.size a0 cap xs (.pix g4 c4 K :: _) wr)) (fun i _ => C.length - (intOf i).toNat)
  case atStart => exact ⟨0, C, by omega, rfl, Lib.hid ⟨rfl, hvC'.out⟩, hS⟩
  case round =>
    clear hS
    obtain ⟨k, K, hk, rfl, hK, hS⟩ := hrel
    by_cases hlt : k < C.length
    · have hkI : (k : Int) < C.length := by omega
      obtain ⟨mm0, mm1⟩ := (sizeB_t.1 (planeB_t.1 hv'.out).1).2.2.2
      have hm1 : IntKind.i64.wrap (m + 1) = m + 1 := IntWalk.i64_in _ (by omega)
      obtain ⟨l, el⟩ : ∃ l, [Th.box w9.heap.size (.int .i64 c) (.int .i64 h) (.int .i64 m) (.slice (some ⟨g5, 0, none⟩) L.length c5), .pix g5 c5 L, .box w8.heap.size (.int .i64 cw) (.int .i64 ch) (.int .i64 m) (.slice (some ⟨g4, 0, none⟩) C.length c4), .box w5.heap.size (.int .i64 r0) (.int .i64 r1) (.int .i64 r2) (.int .i64 r3),
        .box w4.heap.size (.int .i64 c) (.int .i64 h) (.int .i64 m) (.slice (some ⟨g, 0, none⟩) L.length L.length), .pix g L.length L] = l := ⟨_, rfl⟩
      have hS0 := hS.out
      rw [el] at hS0
      have hSd := Lib.hid (hS0.call (bdrewN (bref _) 1))
      have hF : FillS w w.heap.size a0 cap xs l g4 c4 C.length w4.heap.size m w8.heap.size k wr.drew := fillS_of (u0 := .int .i64 c) (u1 := .int .i64 h) (u3 := .slice (some ⟨g, 0, none⟩) L.length L.length) (t0 := .int .i64 cw) (t1 := .int .i64 ch) (t2 := .int .i64 m) hSd.out hK.out.1 hlt (by rw [← el]; simp) (by rw [← el]; simp)
      obtain ⟨-, -, -, q3⟩ := hS.out.en.box w8.heap.size (v0 := .int .i64 cw) (v1 := .int .i64 ch) (v2 := .int .i64 m) (v3 := .slice (some ⟨g4, 0, none⟩) C.length c4) (by simp)
      have el' := Lib.hid el
      clear el hS0 hS
      go_upto_region 11 with fail
      clear q3
      first | go_must (go_region_held3 (fun w' => FillS w w.heap.size a0 cap xs l g4 c4 C.length w4.heap.size m w8.heap.size k w') ((first | with_reducible exact hF | with_reducible exact fillS_call hTa hga ‹_› | with_reducible exact fillS_store ‹_› _))
        (first
          | (go_at_call 10; refine (next_some w w.heap.size a0 cap xs _ _ (fillS_tape ‹FillS w w.heap.size a0 cap xs l g4 c4 C.length w4.heap.size m w8.heap.size k _›) (by omega) (by omega)).mono ?_; rintro e wn ⟨x, rfl, ⟨x0, x1⟩, hTa, hga⟩))) | skip
      all_goals
        have hS2 := Lib.hid ((hSd.out.draw hTa hga).store k x)
        rw [← el'.out] at hS2
        have hK2 := Lib.hid (show (K.set k x).length = C.length ∧ planeB cw ch m (K.set k x) = true from ⟨by rw [List.length_set]; exact hK.out.1, plane_set hK.out.2 (by rw [hK.out.1]; exact hlt) x0 (by omega)⟩)
        clear hF hSd hga hTa
        go_wp2_with fail
        go_roundw
        case rel => exact ⟨k + 1, _, by omega, by go_num, hK2, hS2⟩
        case measure => simp [intOf]; omega
    · obtain rfl : k = C.length := by omega
      have hun := Lib.hid (plane_under hK.out.2)
      obtain ⟨R, eR⟩ : ∃ R, blitL c L cw K r0 r1 = R := ⟨_, rfl⟩
      have hcb := crop_blit (x1 := r2) (y1 := r3) hv'.out (by rw [hCw.out, hCh.out]; exact hK.out.2) (by rw [hCw.out, hCh.out]; exact hpl'.out) hun.out
      rw [hCw.out, eR] at hcb
      have hR := Lib.hid eR
      have hRl := Lib.hid (show R.length = L.length by rw [← eR, blitL_len])
      have hcb' := Lib.hid hcb
      clear eR hcb
      obtain ⟨p0, p1, p2, p3⟩ := hS.out.en.box w4.heap.size (v0 := .int .i64 c) (v1 := .int .i64 h) (v2 := .int .i64 m) (v3 := .slice (some ⟨g, 0, none⟩) L.length L.length) (by simp)
      obtain ⟨q0, q1, q2, q3⟩ := hS.out.en.box w8.heap.size (v0 := .int .i64 cw) (v1 := .int .i64 ch) (v2 := .int .i64 m) (v3 := .slice (some ⟨g4, 0, none⟩) C.length c4) (by simp)
      obtain ⟨s0, s1, s2, s3⟩ := hS.out.en.box w5.heap.size (v0 := .int .i64 r0) (v1 := .int .i64 r1) (v2 := .int .i64 r2) (v3 := .int .i64 r3) (by simp)
      go_wp2_with fail
      refine (blit_n _ _ _ _ _ rfl hK.out.1 hv'.out hK.out.2 hpl'.out hun.out hR.out (hS.out.en.isS g L.length (by simp)) (hS.out.en.isS g4 c4 (by simp)) hcL.out (by rw [hK.out.1]; exact hcC.out)).mono ?_; rintro e w11 ⟨g6, c6, rfl, hP, hb⟩
      have hcR := Lib.hid hP.cap
      replace hS := Lib.hid ((hS.out.made hP hb).new (.int .i64 c) (.int .i64 h) (.int .i64 m) (.slice (some ⟨g6, 0, none⟩) L.length c6) 26)
      clear hP hb p0 p1 p2 p3 q0 q1 q2 q3 s0 s1 s2 s3
      obtain ⟨q0, q1, q2, q3⟩ := hS.out.en.box w11.heap.size (v0 := .int .i64 c) (v1 := .int .i64 h) (v2 := .int .i64 m) (v3 := .slice (some ⟨g6, 0, none⟩) L.length c6) (by simp)
      obtain ⟨s0, s1, s2, s3⟩ := hS.out.en.box w5.heap.size (v0 := .int .i64 r0) (v1 := .int .i64 r1) (v2 := .int .i64 r2) (v3 := .int .i64 r3) (by simp)
      go_wp2_with fail
      refine (crop_n _ _ _ hRl.out hK.out.1 hcb'.out.1 hCw.out hCh.out hcb'.out.2 (hS.out.en.isS g6 c6 (by simp)) hcR.out).mono ?_; rintro e w12 ⟨g7, c7, rfl, hP, hb⟩
      replace hS := Lib.hid ((hS.out.made hP hb).new (.int .i64 cw) (.int .i64 ch) (.int .i64 m) (.slice (some ⟨g7, 0, none⟩) C.length c7) 26)
      clear hP hb q0 q1 q2 q3 s0 s1 s2 s3
      obtain ⟨p0, p1, p2, p3⟩ := hS.out.en.box w4.heap.size (v0 := .int .i64 c) (v1 := .int .i64 h) (v2 := .int .i64 m) (v3 := .slice (some ⟨g, 0, none⟩) L.length L.length) (by simp)
      have hLp := hL1.out
      have hLq := hL.out
      go_wp2_with fail
      refine (mod_any q L.length _ (by omega) (by omega) hq0 hq1).mono ?_; rintro e w13 ⟨rfl, rfl⟩
      have hj0 := Int.emod_nonneg q (show (L.length : Int) ≠ 0 by omega)
      have hj1 := Int.emod_lt_of_pos q (show 0 < (L.length : Int) by omega)
      obtain ⟨j, ej⟩ : ∃ j : Nat, q % L.length = j := ⟨(q % L.length).toNat, by omega⟩
      rw [ej] at hj0 hj1
      simp only [ej]
      have hjl : j < L.length := by omega
      clear ej hj0 p0 p1 p2 p3
      go_upto_region 15 with fail
      obtain ⟨wx, ewx⟩ : ∃ wx, (w12.alloc (.cells #[.int .i64 cw, .int .i64 ch, .int .i64 m, .slice (some ⟨g7, 0, none⟩) C.length c7] 26)) = wx := ⟨_, rfl⟩
      rw [ewx] at hS
      simp only [ewx]
      clear ewx
      obtain ⟨l, el⟩ : ∃ l, [Th.box w12.heap.size (.int .i64 cw) (.int .i64 ch) (.int .i64 m) (.slice (some ⟨g7, 0, none⟩) C.length c7), .pix g7 c7 K, .box w11.heap.size (.int .i64 c) (.int .i64 h) (.int .i64 m) (.slice (some ⟨g6, 0, none⟩) L.length c6), .pix g6 c6 R, .pix g4 c4 K,
        .box w9.heap.size (.int .i64 c) (.int .i64 h) (.int .i64 m) (.slice (some ⟨g5, 0, none⟩) L.length c5), .pix g5 c5 L, .box w8.heap.size (.int .i64 cw) (.int .i64 ch) (.int .i64 m) (.slice (some ⟨g4, 0, none⟩) C.length c4), .box w5.heap.size (.int .i64 r0) (.int .i64 r1) (.int .i64 r2) (.int .i64 r3),
        .box w4.heap.size (.int .i64 c) (.int .i64 h) (.int .i64 m) (.slice (some ⟨g, 0, none⟩) L.length L.length), .pix g L.length L] = l := ⟨_, rfl⟩
      rw [el] at hS
      have hO : Box3 w w.heap.size a0 cap xs l w4.heap.size (.int .i64 c) (.int .i64 h) (.int .i64 m) (.slice (some ⟨g, 0, none⟩) L.length L.length) w5.heap.size (.int .i64 r0) (.int .i64 r1) (.int .i64 r2) (.int .i64 r3) w8.heap.size (.int .i64 cw) (.int .i64 ch) (.int .i64 m) (.slice (some ⟨g4, 0, none⟩) C.length c4) wx.drew := box3_of (hS.out.call (bdrewN (bref _) 1)) (by rw [← el]; simp) (by rw [← el]; simp) (by rw [← el]; simp)
      obtain ⟨v, ev⟩ : ∃ v, containsB r0 r1 r2 r3 ((j : Int) % c) ((j : Int) / c) = v := ⟨_, rfl⟩
      have hpx := Lib.hid (fun hn => blit_out (x1 := r2) (y1 := r3) (j := j) hv'.out (by rw [hCw.out, hCh.out]; exact hK.out.2) (by rw [hCw.out, hCh.out]; exact hpl'.out) hjl (ev.trans hn))
      rw [hCw.out, hR.out] at hpx
      have t1 : (j : Int).tmod c = j % c := Int.tmod_eq_emod_of_nonneg (by omega)
      have t2 : (j : Int).tdiv c = j / c := Int.tdiv_eq_ediv_of_nonneg (by omega)
      have d0 := Int.ediv_nonneg (show 0 ≤ (j : Int) by omega) (show 0 ≤ c by omega)
      have d1 : (j : Int) / c ≤ j := Int.ediv_le_self _ (by omega)
      have e0 := Int.emod_nonneg (j : Int) (show c ≠ 0 by omega)
      have e1 := Int.emod_lt_of_pos (j : Int) (show 0 < c by omega)
      have t3 : IntKind.i64.wrap ((j : Int) / c) = (j : Int) / c := IntWalk.i64_in _ (by omega)
      have t4 : IntKind.i64.wrap ((j : Int) % c) = (j : Int) % c := IntWalk.i64_in _ (by omega)
      have hz : ¬ c = 0 := by omega
      clear d0 d1 e0 e1
      have el' := Lib.hid el
      have ev' := Lib.hid ev
      clear el ev hS
      first | go_must (go_region_held3 (fun w' => Box3 w w.heap.size a0 cap xs l w4.heap.size (.int .i64 c) (.int .i64 h) (.int .i64 m) (.slice (some ⟨g, 0, none⟩) L.length L.length) w5.heap.size (.int .i64 r0) (.int .i64 r1) (.int .i64 r2) (.int .i64 r3) w8.heap.size (.int .i64 cw) (.int .i64 ch) (.int .i64 m) (.slice (some ⟨g4, 0, none⟩) C.length c4) w') ((first | with_reducible exact hO | with_reducible exact box3_below hb ‹_›))
        (first
          | (go_at_call 31; refine (rcontains_is ev'.out _).mono ?_; rintro e w14 ⟨rfl, hb⟩))) | skip
      have hS := Lib.hid ((hO.1.out.1.call (bref _)).call hb)
      clear hb hO t1 t2 t3 t4 hz
      obtain ⟨z1, hz1⟩ : ∃ z1, R.getD j 0 = z1 := ⟨_, rfl⟩
      obtain ⟨z2, hz2⟩ : ∃ z2, L.getD j 0 = z2 := ⟨_, rfl⟩
      have hP : Box4P w w.heap.size a0 cap xs l w4.heap.size (.int .i64 c) (.int .i64 h) (.int .i64 m) (.slice (some ⟨g, 0, none⟩) L.length L.length) w8.heap.size (.int .i64 cw) (.int .i64 ch) (.int .i64 m) (.slice (some ⟨g4, 0, none⟩) C.length c4) w11.heap.size (.int .i64 c) (.int .i64 h) (.int .i64 m) (.slice (some ⟨g6, 0, none⟩) L.length c6) w12.heap.size (.int .i64 cw) (.int .i64 ch) (.int .i64 m) (.slice (some ⟨g7, 0, none⟩) C.length c7) g6 c6 R g L.length L j z1 z2 w14.drew := box4P_of (hS.out.call (bdrewN (bref _) 1)) (by rw [← el'.out]; simp) (by rw [← el'.out]; simp) ⟨by rw [hRl.out]; exact hjl, hz1⟩ ⟨hjl, hz2⟩
      rw [hz1, hz2] at hpx
      have hm4 := Lib.hid (show Th.pix g4 c4 K ∈ l by rw [← el'.out]; simp)
      have hm7 := Lib.hid (show Th.pix g7 c7 K ∈ l by rw [← el'.out]; simp)
      clear hz1 hz2 hS
      have hjI : (0 : Int) ≤ j := by omega
      have hj2 : (j : Int) < L.length := by omega
      go_upto_region 16 with fail
      rcases v with _ | _
      · obtain rfl := hpx.out rfl
        first | go_must (go_region_held3 (fun w' => Box4P w w.heap.size a0 cap xs l w4.heap.size (.int .i64 c) (.int .i64 h) (.int .i64 m) (.slice (some ⟨g, 0, none⟩) L.length L.length) w8.heap.size (.int .i64 cw) (.int .i64 ch) (.int .i64 m) (.slice (some ⟨g4, 0, none⟩) C.length c4) w11.heap.size (.int .i64 c) (.int .i64 h) (.int .i64 m) (.slice (some ⟨g6, 0, none⟩) L.length c6) w12.heap.size (.int .i64 cw) (.int .i64 ch) (.int .i64 m) (.slice (some ⟨g7, 0, none⟩) C.length c7) g6 c6 R g L.length L j z1 z1 w') ((first | with_reducible exact hP | with_reducible exact box4P_below hb ‹_›))
          (first
            | (go_at_call 15; refine (equal_n _ _ _ _ _ hK.out.1 ((‹Box4P w w.heap.size a0 cap xs l w4.heap.size (.int .i64 c) (.int .i64 h) (.int .i64 m) (.slice (some ⟨g, 0, none⟩) L.length L.length) w8.heap.size (.int .i64 cw) (.int .i64 ch) (.int .i64 m) (.slice (some ⟨g4, 0, none⟩) C.length c4) w11.heap.size (.int .i64 c) (.int .i64 h) (.int .i64 m) (.slice (some ⟨g6, 0, none⟩) L.length c6) w12.heap.size (.int .i64 cw) (.int .i64 ch) (.int .i64 m) (.slice (some ⟨g7, 0, none⟩) C.length c7) g6 c6 R g L.length L j z1 z1 _›).1.out.1.1.en.isS g7 c7 hm7.out) ((‹Box4P w w.heap.size a0 cap xs l w4.heap.size (.int .i64 c) (.int .i64 h) (.int .i64 m) (.slice (some ⟨g, 0, none⟩) L.length L.length) w8.heap.size (.int .i64 cw) (.int .i64 ch) (.int .i64 m) (.slice (some ⟨g4, 0, none⟩) C.length c4) w11.heap.size (.int .i64 c) (.int .i64 h) (.int .i64 m) (.slice (some ⟨g6, 0, none⟩) L.length c6) w12.heap.size (.int .i64 cw) (.int .i64 ch) (.int .i64 m) (.slice (some ⟨g7, 0, none⟩) C.length c7) g6 c6 R g L.length L j z1 z1 _›).1.out.1.1.en.isS g4 c4 hm4.out) (by omega)).mono ?_; rintro e w15 ⟨rfl, hb⟩)
            | (go_at_call 18; refine (sane_any _).mono ?_; rintro e w16 ⟨rfl, hb⟩))) | skip
        all_goals
          have hfin := Lib.hid (show Box4P w w.heap.size a0 cap xs l w4.heap.size (.int .i64 c) (.int .i64 h) (.int .i64 m) (.slice (some ⟨g, 0, none⟩) L.length L.length) w8.heap.size (.int .i64 cw) (.int .i64 ch) (.int .i64 m) (.slice (some ⟨g4, 0, none⟩) C.length c4) w11.heap.size (.int .i64 c) (.int .i64 h) (.int .i64 m) (.slice (some ⟨g6, 0, none⟩) L.length c6) w12.heap.size (.int .i64 cw) (.int .i64 ch) (.int .i64 m) (.slice (some ⟨g7, 0, none⟩) C.length c7) g6 c6 R g L.length L j z1 z1 _ from ‹_›).1.out.1.1.below
          go_wp2_with fail
          go_ret
          exact ⟨rfl, hfin.out⟩
      · skip
        refine wp_region_noPanic ?_
        refine wp_region_held_drew (S := fun w' => Box4P w w.heap.size a0 cap xs l w4.heap.size (.int .i64 c) (.int .i64 h) (.int .i64 m) (.slice (some ⟨g, 0, none⟩) L.length L.length) w8.heap.size (.int .i64 cw) (.int .i64 ch) (.int .i64 m) (.slice (some ⟨g4, 0, none⟩) C.length c4) w11.heap.size (.int .i64 c) (.int .i64 h) (.int .i64 m) (.slice (some ⟨g6, 0, none⟩) L.length c6) w12.heap.size (.int .i64 cw) (.int .i64 ch) (.int .i64 m) (.slice (some ⟨g7, 0, none⟩) C.length c7) g6 c6 R g L.length L j z1 z2 w') (by kernel_rfl) (hP) (fun hHeld0 => ?_)
        have hHeld : Box4P w w.heap.size a0 cap xs l w4.heap.size (.int .i64 c) (.int .i64 h) (.int .i64 m) (.slice (some ⟨g, 0, none⟩) L.length L.length) w8.heap.size (.int .i64 cw) (.int .i64 ch) (.int .i64 m) (.slice (some ⟨g4, 0, none⟩) C.length c4) w11.heap.size (.int .i64 c) (.int .i64 h) (.int .i64 m) (.slice (some ⟨g6, 0, none⟩) L.length c6) w12.heap.size (.int .i64 cw) (.int .i64 ch) (.int .i64 m) (.slice (some ⟨g7, 0, none⟩) C.length c7) g6 c6 R g L.length L j z1 z2 _ := hHeld0
        clear hHeld0
        refine wpAnyH_take (i := 0) (oi := { dst := some 110, op := Op.move (Operand.tmp 14), type := 4, pos := "law.go:105", after := #[], guard := none }) (v := ?_) rfl (by kernel_rfl) (by kernel_rfl) (by kernel_rfl) (fun _ _ _ h => h) (Or.inl ⟨by rfl, ?_⟩) hHeld ?_
        rotate_left
        · (intro w0 hSw; (try dsimp only at hSw); go_simp; (try with_reducible rfl))
        try simp only [Act.put, List.setIfInBounds_toArray, List.set_cons_zero, List.set_cons_succ]
        refine wpAnyH_take (i := 1) (oi := { dst := some 111, op := Op.move (Operand.tmp 110), type := 4, pos := "law.go:105", after := #[{ on := 0, ground := Ground.data }], guard := none }) (v := ?_) rfl (by kernel_rfl) (by kernel_rfl) (by kernel_rfl) (fun _ _ _ h => h) (Or.inl ⟨by rfl, ?_⟩) hHeld ?_
        rotate_left
        · (intro w0 hSw; (try dsimp only at hSw); go_simp; (try with_reducible rfl))
        try simp only [Act.put, List.setIfInBounds_toArray, List.set_cons_zero, List.set_cons_succ]
        refine wpAnyH_take (i := 2) (oi := { dst := some 112, op := Op.move (Operand.tmp 16), type := 4, pos := "law.go:105", after := #[{ on := 1, ground := Ground.guard }], guard := some (1, true) }) (v := ?_) rfl (by kernel_rfl) (by kernel_rfl) (by kernel_rfl) (fun _ _ _ h => h) (Or.inl ⟨by rfl, ?_⟩) hHeld ?_
        rotate_left
        · (intro w0 hSw; (try dsimp only at hSw); go_simp; (try with_reducible rfl))
        try simp only [Act.put, List.setIfInBounds_toArray, List.set_cons_zero, List.set_cons_succ]
        refine wpAnyH_take (i := 3) (oi := { dst := some 113, op := Op.pick (Operand.tmp 111) (Operand.tmp 112) (Operand.const (Value.bool false)), type := 4, pos := "law.go:105", after := #[{ on := 1, ground := Ground.data }, { on := 2, ground := Ground.data }], guard := none }) (v := ?_) rfl (by kernel_rfl) (by kernel_rfl) (by kernel_rfl) (fun _ _ _ h => h) (Or.inl ⟨by rfl, ?_⟩) hHeld ?_
        rotate_left
        · (intro w0 hSw; (try dsimp only at hSw); go_simp; (try with_reducible rfl))
        try simp only [Act.put, List.setIfInBounds_toArray, List.set_cons_zero, List.set_cons_succ]
        refine wpAnyH_take (i := 4) (oi := { dst := some 114, op := Op.move (Operand.tmp 113), type := 4, pos := "law.go:105", after := #[{ on := 3, ground := Ground.data }, { on := 1, ground := Ground.chain }], guard := none }) (v := ?_) rfl (by kernel_rfl) (by kernel_rfl) (by kernel_rfl) (fun _ _ _ h => h) (Or.inl ⟨by rfl, ?_⟩) hHeld ?_
        rotate_left
        · (intro w0 hSw; (try dsimp only at hSw); go_simp; (try with_reducible rfl))
        try simp only [Act.put, List.setIfInBounds_toArray, List.set_cons_zero, List.set_cons_succ]
        refine wpAnyH_take (i := 5) (oi := { dst := some 115, op := Op.load 26 (Operand.tmp 15), type := 26, pos := "law.go:105", after := #[{ on := 4, ground := Ground.guard }], guard := some (4, true) }) (v := ?_) rfl (by kernel_rfl) (by kernel_rfl) (by kernel_rfl) (fun _ _ _ h => h) (Or.inl ⟨by rfl, ?_⟩) hHeld ?_
        rotate_left
        · (intro w0 hSw; (try dsimp only at hSw); go_simp; (try with_reducible rfl))
        try simp only [Act.put, List.setIfInBounds_toArray, List.set_cons_zero, List.set_cons_succ]
        refine wpAnyH_take (i := 6) (oi := { dst := some 116, op := Op.load 26 (Operand.tmp 8), type := 26, pos := "law.go:105", after := #[{ on := 4, ground := Ground.guard }], guard := some (4, true) }) (v := ?_) rfl (by kernel_rfl) (by kernel_rfl) (by kernel_rfl) (fun _ _ _ h => h) (Or.inl ⟨by rfl, ?_⟩) hHeld ?_
        rotate_left
        · (intro w0 hSw; (try dsimp only at hSw); go_simp; (try with_reducible rfl))
        try simp only [Act.put, List.setIfInBounds_toArray, List.set_cons_zero, List.set_cons_succ]
        refine wpAnyH_ready (rs := [7]) (by kernel_rfl) (by simp) (AllReadyH.cons (o := { dst := some 117, op := Op.call { callee := Callee.value (Operand.func 15), args := #[Operand.tmp 115, Operand.tmp 116], argTypes := #[26, 26] }, type := 4, pos := "law.go:105", after := #[{ on := 5, ground := Ground.data }, { on := 6, ground := Ground.data }, { on := 4, ground := Ground.chain }, { on := 4, ground := Ground.guard }], guard := some (4, true) }) rfl (fun KQ hKQ => ?_) AllReadyH.nil)
        go_simp
        refine (equal_n _ _ _ _ _ hK.out.1 (hHeld.1.out.1.1.en.isS g7 c7 hm7.out) (hHeld.1.out.1.1.en.isS g4 c4 hm4.out) (by omega)).mono ?_; rintro e w15 ⟨rfl, hb⟩
        go_wp2_with fail
        refine hKQ.out _ _ (box4P_below hb hHeld) (fun hHeld2 => ?_)
        clear hKQ KQ hHeld
        have hHeld : Box4P w w.heap.size a0 cap xs l w4.heap.size (.int .i64 c) (.int .i64 h) (.int .i64 m) (.slice (some ⟨g, 0, none⟩) L.length L.length) w8.heap.size (.int .i64 cw) (.int .i64 ch) (.int .i64 m) (.slice (some ⟨g4, 0, none⟩) C.length c4) w11.heap.size (.int .i64 c) (.int .i64 h) (.int .i64 m) (.slice (some ⟨g6, 0, none⟩) L.length c6) w12.heap.size (.int .i64 cw) (.int .i64 ch) (.int .i64 m) (.slice (some ⟨g7, 0, none⟩) C.length c7) g6 c6 R g L.length L j z1 z2 _ := hHeld2
        clear hHeld2
        try simp only [Act.put, List.setIfInBounds_toArray, List.set_cons_zero, List.set_cons_succ]
        refine wpAnyH_take (i := 8) (oi := { dst := some 118, op := Op.pick (Operand.tmp 114) (Operand.tmp 117) (Operand.const (Value.bool false)), type := 4, pos := "law.go:105", after := #[{ on := 4, ground := Ground.data }, { on := 7, ground := Ground.data }], guard := none }) (v := ?_) rfl (by kernel_rfl) (by kernel_rfl) (by kernel_rfl) (fun _ _ _ h => h) (Or.inl ⟨by rfl, ?_⟩) hHeld ?_
        rotate_left
        · (intro w0 hSw; (try dsimp only at hSw); go_simp; (try with_reducible rfl))
        try simp only [Act.put, List.setIfInBounds_toArray, List.set_cons_zero, List.set_cons_succ]
        refine wpAnyH_take (i := 9) (oi := { dst := some 119, op := Op.move (Operand.tmp 118), type := 4, pos := "law.go:105", after := #[{ on := 8, ground := Ground.data }, { on := 7, ground := Ground.chain }], guard := none }) (v := ?_) rfl (by kernel_rfl) (by kernel_rfl) (by kernel_rfl) (fun _ _ _ h => h) (Or.inl ⟨by rfl, ?_⟩) hHeld ?_
        rotate_left
        · (intro w0 hSw; (try dsimp only at hSw); go_simp; (try with_reducible rfl))
        try simp only [Act.put, List.setIfInBounds_toArray, List.set_cons_zero, List.set_cons_succ]
        refine wpAnyH_take (i := 10) (oi := { dst := some 120, op := Op.fieldAddr 26 (Operand.tmp 13) 3, type := 0, pos := "law.go:105", after := #[{ on := 9, ground := Ground.guard }], guard := some (9, true) }) (v := ?_) rfl (by kernel_rfl) (by kernel_rfl) (by kernel_rfl) (fun _ _ _ h => h) (Or.inl ⟨by rfl, ?_⟩) hHeld ?_
        rotate_left
        · (intro w0 hSw; (try dsimp only at hSw); go_simp; (try with_reducible rfl))
        try simp only [Act.put, List.setIfInBounds_toArray, List.set_cons_zero, List.set_cons_succ]
        refine wpAnyH_take (i := 11) (oi := { dst := some 121, op := Op.load 22 (Operand.tmp 120), type := 22, pos := "law.go:105", after := #[{ on := 10, ground := Ground.data }, { on := 9, ground := Ground.guard }], guard := some (9, true) }) (v := ?_) rfl (by kernel_rfl) (by kernel_rfl) (by kernel_rfl) (fun _ _ _ h => h) (Or.inl ⟨by rfl, ?_⟩) hHeld ?_
        rotate_left
        · (intro w0 hSw; (try dsimp only at hSw); go_simp; (try with_reducible rfl))
        try simp only [Act.put, List.setIfInBounds_toArray, List.set_cons_zero, List.set_cons_succ]
        refine wpAnyH_take (i := 12) (oi := { dst := some 122, op := Op.call { callee := Callee.builtin Builtin.len, args := #[Operand.tmp 121], argTypes := #[22] }, type := 3, pos := "law.go:105", after := #[{ on := 11, ground := Ground.data }, { on := 9, ground := Ground.guard }], guard := some (9, true) }) (v := ?_) rfl (by kernel_rfl) (by kernel_rfl) (by kernel_rfl) (fun _ _ _ h => h) (Or.inl ⟨by rfl, ?_⟩) hHeld ?_
        rotate_left
        · (intro w0 hSw; (try dsimp only at hSw); go_simp; (try with_reducible rfl))
        try simp only [Act.put, List.setIfInBounds_toArray, List.set_cons_zero, List.set_cons_succ]
        refine wpAnyH_take (i := 13) (oi := { dst := some 123, op := Op.fieldAddr 26 (Operand.tmp 6) 3, type := 0, pos := "law.go:105", after := #[{ on := 9, ground := Ground.guard }], guard := some (9, true) }) (v := ?_) rfl (by kernel_rfl) (by kernel_rfl) (by kernel_rfl) (fun _ _ _ h => h) (Or.inl ⟨by rfl, ?_⟩) hHeld ?_
        rotate_left
        · (intro w0 hSw; (try dsimp only at hSw); go_simp; (try with_reducible rfl))
        try simp only [Act.put, List.setIfInBounds_toArray, List.set_cons_zero, List.set_cons_succ]
        refine wpAnyH_take (i := 14) (oi := { dst := some 124, op := Op.load 22 (Operand.tmp 123), type := 22, pos := "law.go:105", after := #[{ on := 13, ground := Ground.data }, { on := 9, ground := Ground.guard }], guard := some (9, true) }) (v := ?_) rfl (by kernel_rfl) (by kernel_rfl) (by kernel_rfl) (fun _ _ _ h => h) (Or.inl ⟨by rfl, ?_⟩) hHeld ?_
        rotate_left
        · (intro w0 hSw; (try dsimp only at hSw); go_simp; (try with_reducible rfl))
        try simp only [Act.put, List.setIfInBounds_toArray, List.set_cons_zero, List.set_cons_succ]
        refine wpAnyH_take (i := 15) (oi := { dst := some 125, op := Op.call { callee := Callee.builtin Builtin.len, args := #[Operand.tmp 124], argTypes := #[22] }, type := 3, pos := "law.go:105", after := #[{ on := 14, ground := Ground.data }, { on := 9, ground := Ground.guard }], guard := some (9, true) }) (v := ?_) rfl (by kernel_rfl) (by kernel_rfl) (by kernel_rfl) (fun _ _ _ h => h) (Or.inl ⟨by rfl, ?_⟩) hHeld ?_
        rotate_left
        · (intro w0 hSw; (try dsimp only at hSw); go_simp; (try with_reducible rfl))
        try simp only [Act.put, List.setIfInBounds_toArray, List.set_cons_zero, List.set_cons_succ]
        refine wpAnyH_take (i := 16) (oi := { dst := some 126, op := Op.binOp BinOp.eql 3 (Operand.tmp 122) (Operand.tmp 125) 3, type := 4, pos := "law.go:105", after := #[{ on := 12, ground := Ground.data }, { on := 15, ground := Ground.data }, { on := 9, ground := Ground.guard }], guard := some (9, true) }) (v := ?_) rfl (by kernel_rfl) (by kernel_rfl) (by kernel_rfl) (fun _ _ _ h => h) (Or.inl ⟨by rfl, ?_⟩) hHeld ?_
        rotate_left
        · (intro w0 hSw; (try dsimp only at hSw); go_simp; (try with_reducible rfl))
        try simp only [Act.put, List.setIfInBounds_toArray, List.set_cons_zero, List.set_cons_succ]
        refine wpAnyH_take (i := 17) (oi := { dst := some 127, op := Op.pick (Operand.tmp 119) (Operand.tmp 126) (Operand.const (Value.bool false)), type := 4, pos := "law.go:105", after := #[{ on := 9, ground := Ground.data }, { on := 16, ground := Ground.data }], guard := none }) (v := ?_) rfl (by kernel_rfl) (by kernel_rfl) (by kernel_rfl) (fun _ _ _ h => h) (Or.inl ⟨by rfl, ?_⟩) hHeld ?_
        rotate_left
        · (intro w0 hSw; (try dsimp only at hSw); go_simp; (try with_reducible rfl))
        try simp only [Act.put, List.setIfInBounds_toArray, List.set_cons_zero, List.set_cons_succ]
        refine wpAnyH_take (i := 18) (oi := { dst := some 128, op := Op.move (Operand.tmp 127), type := 4, pos := "law.go:105", after := #[{ on := 17, ground := Ground.data }, { on := 9, ground := Ground.chain }], guard := none }) (v := ?_) rfl (by kernel_rfl) (by kernel_rfl) (by kernel_rfl) (fun _ _ _ h => h) (Or.inl ⟨by rfl, ?_⟩) hHeld ?_
        rotate_left
        · (intro w0 hSw; (try dsimp only at hSw); go_simp; (try with_reducible rfl))
        try simp only [Act.put, List.setIfInBounds_toArray, List.set_cons_zero, List.set_cons_succ]
        refine wpAnyH_take (i := 19) (oi := { dst := some 129, op := Op.move (Operand.tmp 18), type := 4, pos := "law.go:105", after := #[{ on := 18, ground := Ground.guard }], guard := some (18, true) }) (v := ?_) rfl (by kernel_rfl) (by kernel_rfl) (by kernel_rfl) (fun _ _ _ h => h) (Or.inl ⟨by rfl, ?_⟩) hHeld ?_
        rotate_left
        · (intro w0 hSw; (try dsimp only at hSw); go_simp; (try with_reducible rfl))
        try simp only [Act.put, List.setIfInBounds_toArray, List.set_cons_zero, List.set_cons_succ]
        refine wpAnyH_take (i := 20) (oi := { dst := some 130, op := Op.move (Operand.tmp 129), type := 4, pos := "law.go:105", after := #[{ on := 19, ground := Ground.data }, { on := 18, ground := Ground.chain }, { on := 18, ground := Ground.guard }], guard := some (18, true) }) (v := ?_) rfl (by kernel_rfl) (by kernel_rfl) (by kernel_rfl) (fun _ _ _ h => h) (Or.inl ⟨by rfl, ?_⟩) hHeld ?_
        rotate_left
        · (intro w0 hSw; (try dsimp only at hSw); go_simp; (try with_reducible rfl))
        try simp only [Act.put, List.setIfInBounds_toArray, List.set_cons_zero, List.set_cons_succ]
        refine wpAnyH_take (i := 21) (oi := { dst := some 131, op := Op.fieldAddr 26 (Operand.tmp 13) 3, type := 0, pos := "law.go:105", after := #[{ on := 20, ground := Ground.guard }], guard := some (20, false) }) (v := undef) rfl (by kernel_rfl) (by kernel_rfl) (by kernel_rfl) (fun _ _ _ h => h) (Or.inr ⟨by kernel_rfl, rfl⟩) hHeld ?_
        try simp only [Act.put, List.setIfInBounds_toArray, List.set_cons_zero, List.set_cons_succ]
        refine wpAnyH_take (i := 22) (oi := { dst := some 132, op := Op.load 22 (Operand.tmp 131), type := 22, pos := "law.go:105", after := #[{ on := 21, ground := Ground.data }, { on := 20, ground := Ground.guard }], guard := some (20, false) }) (v := undef) rfl (by kernel_rfl) (by kernel_rfl) (by kernel_rfl) (fun _ _ _ h => h) (Or.inr ⟨by kernel_rfl, rfl⟩) hHeld ?_
        try simp only [Act.put, List.setIfInBounds_toArray, List.set_cons_zero, List.set_cons_succ]
        refine wpAnyH_take (i := 23) (oi := { dst := some 133, op := Op.move (Operand.tmp 17), type := 3, pos := "law.go:105", after := #[{ on := 20, ground := Ground.guard }], guard := some (20, false) }) (v := undef) rfl (by kernel_rfl) (by kernel_rfl) (by kernel_rfl) (fun _ _ _ h => h) (Or.inr ⟨by kernel_rfl, rfl⟩) hHeld ?_
        try simp only [Act.put, List.setIfInBounds_toArray, List.set_cons_zero, List.set_cons_succ]
        refine wpAnyH_take (i := 24) (oi := { dst := some 134, op := Op.indexAddr 22 (Operand.tmp 132) (Operand.tmp 133), type := 0, pos := "law.go:105", after := #[{ on := 22, ground := Ground.data }, { on := 23, ground := Ground.data }, { on := 20, ground := Ground.guard }], guard := some (20, false) }) (v := undef) rfl (by kernel_rfl) (by kernel_rfl) (by kernel_rfl) (fun _ _ _ h => h) (Or.inr ⟨by kernel_rfl, rfl⟩) hHeld ?_
        try simp only [Act.put, List.setIfInBounds_toArray, List.set_cons_zero, List.set_cons_succ]
        refine wpAnyH_take (i := 25) (oi := { dst := some 135, op := Op.load 3 (Operand.tmp 134), type := 3, pos := "law.go:105", after := #[{ on := 24, ground := Ground.data }, { on := 20, ground := Ground.guard }], guard := some (20, false) }) (v := undef) rfl (by kernel_rfl) (by kernel_rfl) (by kernel_rfl) (fun _ _ _ h => h) (Or.inr ⟨by kernel_rfl, rfl⟩) hHeld ?_
        try simp only [Act.put, List.setIfInBounds_toArray, List.set_cons_zero, List.set_cons_succ]
        refine wpAnyH_take (i := 26) (oi := { dst := some 136, op := Op.fieldAddr 26 (Operand.tmp 6) 3, type := 0, pos := "law.go:105", after := #[{ on := 20, ground := Ground.guard }], guard := some (20, false) }) (v := undef) rfl (by kernel_rfl) (by kernel_rfl) (by kernel_rfl) (fun _ _ _ h => h) (Or.inr ⟨by kernel_rfl, rfl⟩) hHeld ?_
        try simp only [Act.put, List.setIfInBounds_toArray, List.set_cons_zero, List.set_cons_succ]
        refine wpAnyH_take (i := 27) (oi := { dst := some 137, op := Op.load 22 (Operand.tmp 136), type := 22, pos := "law.go:105", after := #[{ on := 26, ground := Ground.data }, { on := 20, ground := Ground.guard }], guard := some (20, false) }) (v := undef) rfl (by kernel_rfl) (by kernel_rfl) (by kernel_rfl) (fun _ _ _ h => h) (Or.inr ⟨by kernel_rfl, rfl⟩) hHeld ?_
        try simp only [Act.put, List.setIfInBounds_toArray, List.set_cons_zero, List.set_cons_succ]
        refine wpAnyH_take (i := 28) (oi := { dst := some 138, op := Op.move (Operand.tmp 17), type := 3, pos := "law.go:105", after := #[{ on := 20, ground := Ground.guard }], guard := some (20, false) }) (v := undef) rfl (by kernel_rfl) (by kernel_rfl) (by kernel_rfl) (fun _ _ _ h => h) (Or.inr ⟨by kernel_rfl, rfl⟩) hHeld ?_
        try simp only [Act.put, List.setIfInBounds_toArray, List.set_cons_zero, List.set_cons_succ]
        refine wpAnyH_take (i := 29) (oi := { dst := some 139, op := Op.indexAddr 22 (Operand.tmp 137) (Operand.tmp 138), type := 0, pos := "law.go:105", after := #[{ on := 27, ground := Ground.data }, { on := 28, ground := Ground.data }, { on := 20, ground := Ground.guard }], guard := some (20, false) }) (v := undef) rfl (by kernel_rfl) (by kernel_rfl) (by kernel_rfl) (fun _ _ _ h => h) (Or.inr ⟨by kernel_rfl, rfl⟩) hHeld ?_
        try simp only [Act.put, List.setIfInBounds_toArray, List.set_cons_zero, List.set_cons_succ]
        refine wpAnyH_take (i := 30) (oi := { dst := some 140, op := Op.load 3 (Operand.tmp 139), type := 3, pos := "law.go:105", after := #[{ on := 29, ground := Ground.data }, { on := 20, ground := Ground.guard }], guard := some (20, false) }) (v := undef) rfl (by kernel_rfl) (by kernel_rfl) (by kernel_rfl) (fun _ _ _ h => h) (Or.inr ⟨by kernel_rfl, rfl⟩) hHeld ?_
        try simp only [Act.put, List.setIfInBounds_toArray, List.set_cons_zero, List.set_cons_succ]
        refine wpAnyH_take (i := 31) (oi := { dst := some 141, op := Op.binOp BinOp.eql 3 (Operand.tmp 135) (Operand.tmp 140) 3, type := 4, pos := "law.go:105", after := #[{ on := 25, ground := Ground.data }, { on := 30, ground := Ground.data }, { on := 20, ground := Ground.guard }], guard := some (20, false) }) (v := undef) rfl (by kernel_rfl) (by kernel_rfl) (by kernel_rfl) (fun _ _ _ h => h) (Or.inr ⟨by kernel_rfl, rfl⟩) hHeld ?_
        try simp only [Act.put, List.setIfInBounds_toArray, List.set_cons_zero, List.set_cons_succ]
        refine wpAnyH_take (i := 32) (oi := { dst := some 142, op := Op.pick (Operand.tmp 130) (Operand.const (Value.bool true)) (Operand.tmp 141), type := 4, pos := "law.go:105", after := #[{ on := 20, ground := Ground.data }, { on := 31, ground := Ground.data }, { on := 18, ground := Ground.guard }], guard := some (18, true) }) (v := ?_) rfl (by kernel_rfl) (by kernel_rfl) (by kernel_rfl) (fun _ _ _ h => h) (Or.inl ⟨by rfl, ?_⟩) hHeld ?_
        rotate_left
        · (intro w0 hSw; (try dsimp only at hSw); go_simp; (try with_reducible rfl))
        try simp only [Act.put, List.setIfInBounds_toArray, List.set_cons_zero, List.set_cons_succ]
        refine wpAnyH_take (i := 33) (oi := { dst := some 143, op := Op.pick (Operand.tmp 128) (Operand.tmp 142) (Operand.const (Value.bool false)), type := 4, pos := "law.go:105", after := #[{ on := 18, ground := Ground.data }, { on := 32, ground := Ground.data }], guard := none }) (v := ?_) rfl (by kernel_rfl) (by kernel_rfl) (by kernel_rfl) (fun _ _ _ h => h) (Or.inl ⟨by rfl, ?_⟩) hHeld ?_
        rotate_left
        · (intro w0 hSw; (try dsimp only at hSw); go_simp; (try with_reducible rfl))
        try simp only [Act.put, List.setIfInBounds_toArray, List.set_cons_zero, List.set_cons_succ]
        refine wpAnyH_take (i := 34) (oi := { dst := some 144, op := Op.move (Operand.tmp 143), type := 4, pos := "law.go:105", after := #[{ on := 33, ground := Ground.data }, { on := 20, ground := Ground.chain }], guard := none }) (v := ?_) rfl (by kernel_rfl) (by kernel_rfl) (by kernel_rfl) (fun _ _ _ h => h) (Or.inl ⟨by rfl, ?_⟩) hHeld ?_
        rotate_left
        · (intro w0 hSw; (try dsimp only at hSw); go_simp; (try with_reducible rfl))
        try simp only [Act.put, List.setIfInBounds_toArray, List.set_cons_zero, List.set_cons_succ]
        refine wpAnyH_ready (rs := [35]) (by kernel_rfl) (by simp) (AllReadyH.cons (o := { dst := some 145, op := Op.call { callee := Callee.value (Operand.func 18), args := #[], argTypes := #[] }, type := 4, pos := "law.go:105", after := #[{ on := 34, ground := Ground.chain }, { on := 34, ground := Ground.guard }], guard := some (34, true) }) rfl (fun KQ hKQ => ?_) AllReadyH.nil)
        go_simp
        refine (sane_any _).mono ?_; rintro e w16 ⟨rfl, hb2⟩
        go_wp2_with fail
        refine hKQ.out _ _ (box4P_below hb2 hHeld) (fun hHeld2 => ?_)
        clear hKQ KQ hHeld
        have hHeld : Box4P w w.heap.size a0 cap xs l w4.heap.size (.int .i64 c) (.int .i64 h) (.int .i64 m) (.slice (some ⟨g, 0, none⟩) L.length L.length) w8.heap.size (.int .i64 cw) (.int .i64 ch) (.int .i64 m) (.slice (some ⟨g4, 0, none⟩) C.length c4) w11.heap.size (.int .i64 c) (.int .i64 h) (.int .i64 m) (.slice (some ⟨g6, 0, none⟩) L.length c6) w12.heap.size (.int .i64 cw) (.int .i64 ch) (.int .i64 m) (.slice (some ⟨g7, 0, none⟩) C.length c7) g6 c6 R g L.length L j z1 z2 _ := hHeld2
        clear hHeld2
        try simp only [Act.put, List.setIfInBounds_toArray, List.set_cons_zero, List.set_cons_succ]
        refine wpAnyH_take (i := 36) (oi := { dst := some 146, op := Op.pick (Operand.tmp 144) (Operand.tmp 145) (Operand.const (Value.bool false)), type := 4, pos := "law.go:105", after := #[{ on := 34, ground := Ground.data }, { on := 35, ground := Ground.data }], guard := none }) (v := ?_) rfl (by kernel_rfl) (by kernel_rfl) (by kernel_rfl) (fun _ _ _ h => h) (Or.inl ⟨by rfl, ?_⟩) hHeld ?_
        rotate_left
        · (intro w0 hSw; (try dsimp only at hSw); go_simp; (try with_reducible rfl))
        try simp only [Act.put, List.setIfInBounds_toArray, List.set_cons_zero, List.set_cons_succ]
        refine wpAnyH_take (i := 37) (oi := { dst := some 4, op := Op.assign (Operand.tmp 146), type := 4, pos := "law.go:105", after := #[{ on := 36, ground := Ground.data }, { on := 35, ground := Ground.chain }, { on := 0, ground := Ground.phase }, { on := 1, ground := Ground.phase }, { on := 2, ground := Ground.phase }, { on := 3, ground := Ground.phase }, { on := 4, ground := Ground.phase }, { on := 5, ground := Ground.phase }, { on := 6, ground := Ground.phase }, { on := 7, ground := Ground.phase }, { on := 8, ground := Ground.phase }, { on := 9, ground := Ground.phase }, { on := 10, ground := Ground.phase }, { on := 11, ground := Ground.phase }, { on := 12, ground := Ground.phase }, { on := 13, ground := Ground.phase }, { on := 14, ground := Ground.phase }, { on := 15, ground := Ground.phase }, { on := 16, ground := Ground.phase }, { on := 17, ground := Ground.phase }, { on := 18, ground := Ground.phase }, { on := 19, ground := Ground.phase }, { on := 20, ground := Ground.phase }, { on := 21, ground := Ground.phase }, { on := 22, ground := Ground.phase }, { on := 23, ground := Ground.phase }, { on := 24, ground := Ground.phase }, { on := 25, ground := Ground.phase }, { on := 26, ground := Ground.phase }, { on := 27, ground := Ground.phase }, { on := 28, ground := Ground.phase }, { on := 29, ground := Ground.phase }, { on := 30, ground := Ground.phase }, { on := 31, ground := Ground.phase }, { on := 32, ground := Ground.phase }, { on := 33, ground := Ground.phase }, { on := 34, ground := Ground.phase }, { on := 35, ground := Ground.phase }, { on := 36, ground := Ground.phase }], guard := none }) (v := ?_) rfl (by kernel_rfl) (by kernel_rfl) (by kernel_rfl) (fun _ _ _ h => h) (Or.inl ⟨by rfl, ?_⟩) hHeld ?_
        rotate_left
        · (intro w0 hSw; (try dsimp only at hSw); go_simp; (try with_reducible rfl))
        try simp only [Act.put, List.setIfInBounds_toArray, List.set_cons_zero, List.set_cons_succ]
        refine wpAnyH_done (by kernel_rfl) ?_ _
        refine NoPanic.normal ?_
        have hfin := Lib.hid hHeld.1.out.1.1.below
        go_wp2_with fail
        go_ret
        exact ⟨rfl, hfin.out⟩

namespace planeBlits
theorem own : ownKnob Try.prog.godebug = none := by kernel_rfl
theorem laid : laidOutB Try.prog = true := by kernel_rfl
theorem params_ok : ∀ t ∈ Try.f7.params.toList, Try.prog.readableRec t = true ∧ t < Try.prog.types.size := by
  rw [Try.params7]
  intro t ht
  simp at ht
  rcases ht with rfl | rfl <;> exact ⟨by kernel_rfl, of_decide_eq_true (by kernel_rfl)⟩
set_option maxRecDepth 100000 in
theorem lifted (os : Os) (started : os.Started) (H : Type) (enc : TypeId × Value → H) :
    ReturnsInHanded {} Try.checked os 7 .any (Rows.planeBlitsSpec.pre6 enc Try.prog Try.f7 Rows.planeBlitsRow.domain false) (Rows.planeBlitsSpec.post enc Try.prog Try.f7 false true false false) := by
  refine returnsInHanded_of_change (C := Try.checked) own started (by kernel_rfl) Try.func7
    (ChangeSpec.witness6 (enc := enc) (C := Try.checked) false ⟨#[], #[.slice none 0 0, .int .i64 0], []⟩ 8 (by kernel_rfl) (by kernel_rfl) (by kernel_rfl) (by kernel_rfl)) ?_
  intro W base args ds gs before hval0 hW hcnd _
  have hval : ∀ (j : Nat) t v, Try.f7.params[j]? = some t → args[j]? = some v → Value.okWide Try.prog W .any base t v := hval0
  have hW' := hW
  obtain ⟨p, q, hA0, hV, rfl, hfz, hnd⟩ := hW
  have hA : DataW.TrodAll enc Try.prog W 0 (fun _ => true) true Try.f7.params.toList args.toList ds p := hA0
  rw [Try.params7] at hA hval
  obtain ⟨v0, vs0, d0, ds0, p0, q0, hargs, rfl, rfl, h0, r0⟩ := trodAll_cons hA
  obtain ⟨v1, vs1, d1, ds1, p1, q1, rfl, rfl, rfl, h1, r1⟩ := trodAll_cons r0
  obtain ⟨rfl, rfl, rfl⟩ := trodAll_nil r1
  obtain rfl : args = #[v0, v1] := by cases args; simp_all
  obtain ⟨rfl, rfl⟩ := trodVars_none hV
  obtain ⟨a0, len, cap, rfl⟩ := okWide_slice Try.underlying22 (hval 0 22 v0 rfl rfl)
  obtain ⟨xs, rfl, hs, hf, hl⟩ := open_list h0
  obtain ⟨i1, rfl, rfl, rfl, w1⟩ := open_int Try.underlying3 (hval 1 3 v1 rfl rfl) h1
  clear hA0 hval0
  have fin : Calls Try.prog 7 #[.slice a0 xs.length cap, .int .i64 i1] W (TestPost true W) := blits_walk xs a0 cap i1 W hs hf hl (wf_bd w1).1 (wf_bd w1).2
  refine fin.mono fun e W' ⟨he, hb⟩ => ?_
  subst he
  exact ⟨_, rfl, law_post laid rfl Try.underlying4 params_ok rfl hW' rfl hb⟩

theorem over : Rows.planeBlitsRow.holds Try.pinned (OpenSpec.ofChange Rows.planeBlitsSpec) :=
  OpenClaim.holds_of_wide 7 Try.f7 rfl rfl rfl rfl rfl rfl rfl ⟨rfl, rfl, rfl, rfl, rfl⟩ rfl rfl rfl rfl rfl (by kernel_rfl) Try.func7 (by kernel_rfl)
    (of_decide_eq_true (by kernel_rfl)) (by unfold Func.isWrapper; first | (rw [if_pos (by decide +kernel)]; kernel_rfl) | (rw [if_neg (by decide +kernel)]; exact ⟨rfl, rfl⟩))
    (fun os started H enc _ => lifted os started H enc)

/-- the statement -/
theorem proved : Rows.PlaneBlitsSaid := over
#print axioms proved
end planeBlits
end Go.Proofs.Ytpmajophkhihlaa
