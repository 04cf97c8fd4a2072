/- For every list of numbers, plane and numbers the statement PlaneValid returns true: which planes are valid and equal, and new planes, is as the reference says. No condition. -/
import Derived.Test.YtpmajophkhihlaaPValidKit
import Derived.Deep.DeepCutAuto
namespace Go.Proofs.Ytpmajophkhihlaa
open Go.ChangeShapes Go.WideShapes Go.ChangeAt Go.RowKit
set_option linter.unusedVariables false
set_option linter.unusedSimpArgs false

set_option maxRecDepth 100000 in
set_option maxHeartbeats 4000000 in
theorem valid_walk (xs : List Int) (a0 : Option Addr) (cap : Nat) (pX pY pZ : Int) (pK : List Int) (ps : Option Addr) (pc : Nat) (wd ht mx : Int) (w : World) (hs : SliceIs w a0 xs) (hf : Fits xs) (hl : xs.length ≤ 9223372036854775807) (hps : SliceIs w ps pK) (hpl : pK.length ≤ 9223372036854775807)
    (hwd : -9223372036854775808 ≤ wd ∧ wd ≤ 9223372036854775807) (hht : -9223372036854775808 ≤ ht ∧ ht ≤ 9223372036854775807) (hmx : -9223372036854775808 ≤ mx ∧ mx ≤ 9223372036854775807) :
    Calls Try.prog 4 #[.slice a0 xs.length cap, .agg #[.int .i64 pX, .int .i64 pY, .int .i64 pZ, .slice ps pK.length pc], .int .i64 wd, .int .i64 ht, .int .i64 mx] w (TestPost true w) := by
  have hs' := Lib.hid (is_below hs (balloc (bref w) (.cells #[.int .i64 pX, .int .i64 pY, .int .i64 pZ, .slice ps pK.length pc] 26)))
  have hps' := Lib.hid (is_below hps (balloc (bref w) (.cells #[.int .i64 pX, .int .i64 pY, .int .i64 pZ, .slice ps pK.length pc] 26)))
  have hf' := Lib.hid hf
  have hwd' := Lib.hid hwd
  have hht' := Lib.hid hht
  have hmx' := Lib.hid hmx
  clear hs hf hps hwd hht hmx
  go_enter Try.func4, Try.ntmps4
  go_wp2_with fail
  have hq : C4 (w.alloc (.cells #[.int .i64 pX, .int .i64 pY, .int .i64 pZ, .slice ps pK.length pc] 26)) w.heap.size (.int .i64 pX) (.int .i64 pY) (.int .i64 pZ) (.slice ps pK.length pc) := ⟨by go_cell, by go_cell, by go_cell, by go_cell⟩
  replace hq := Lib.hid hq
  have hBW := Lib.hid (balloc (bref w) (.cells #[.int .i64 pX, .int .i64 pY, .int .i64 pZ, .slice ps pK.length pc] 26))
  obtain ⟨W, eW⟩ : ∃ W, w.alloc (.cells #[.int .i64 pX, .int .i64 pY, .int .i64 pZ, .slice ps pK.length pc] 26) = W := ⟨_, rfl⟩
  rw [eW] at hs' hBW hq hps'
  simp only [eW]
  clear eW
  refine (new_any a0 cap xs _ hs'.out hf'.out hl).mono ?_; rintro e w1 ⟨rfl, hT⟩
  have hS := Lib.hid (St.start hT)
  clear hT
  go_wp2_with fail
  go_loopw [12] (fun i wr => ∃ k : Nat, k ≤ 4 ∧ i = .int .i64 k ∧ Hid (St W W.heap.size a0 cap xs [] wr)) (fun i _ => 4 - (intOf i).toNat)
  case atStart => exact ⟨0, by omega, rfl, hS⟩
  case round =>
    clear hS
    obtain ⟨k, hk, rfl, hS⟩ := hrel
    by_cases hlt : k < 4
    · have hkI : (k : Int) < 4 := by omega
      go_wp2_with fail
      refine (plane_any W W.heap.size a0 cap xs _ hS.out.tape).mono ?_; rintro e w2 ⟨c, h, hc, hh, m, g, L, rfl, hv, hm, hP, hT, hg⟩
      replace hS := Lib.hid ((hS.out.drawn hP hT hg).new (.int .i64 c) (.int .i64 h) (.int .i64 m) (.slice (some ⟨g, 0, none⟩) L.length L.length) 26)
      have hv' := Lib.hid hv
      have hL := Lib.hid (plane_len hv)
      have hL1 := Lib.hid (plane_pos hv)
      have hm1 := (sizeB_t.1 (planeB_t.1 hv).1).2.2.2.1
      clear hP hT hg hv
      obtain ⟨p0, p1, p2, p3⟩ := hS.out.en.box w2.heap.size (v0 := .int .i64 c) (v1 := .int .i64 h) (v2 := .int .i64 m) (v3 := .slice (some ⟨g, 0, none⟩) L.length L.length) (by simp)
      go_wp2_with fail
      refine (spoil_any W W.heap.size a0 cap xs c h m L _ L.length _ hS.out.tape (hS.out.en.isS g L.length (by simp)) hL1.out hL.out (by omega) (by omega) (by omega)).mono ?_; rintro e w4 ⟨X, Y, Z, K, sl, kc, rfl, hsl, hKl, _, _, _, hT, hg, _⟩
      have hsl' := Lib.hid (is_below hsl (balloc (bref _) (.cells #[.int .i64 X, .int .i64 Y, .int .i64 Z, .slice sl K.length kc] 26)))
      replace hS := Lib.hid ((hS.out.draw hT hg).new (.int .i64 X) (.int .i64 Y) (.int .i64 Z) (.slice sl K.length kc) 26)
      clear hT hg p0 p1 p2 p3 hsl
      go_upto_region 7 with fail
      obtain ⟨wx, ewx⟩ : ∃ wx, (w4.alloc (.cells #[.int .i64 X, .int .i64 Y, .int .i64 Z, .slice sl K.length kc] 26)) = wx := ⟨_, rfl⟩
      rw [ewx] at hS hsl'
      simp only [ewx]
      clear ewx
      obtain ⟨l, el⟩ : ∃ l, [Th.box w4.heap.size (.int .i64 X) (.int .i64 Y) (.int .i64 Z) (.slice sl K.length kc), .box w2.heap.size (.int .i64 c) (.int .i64 h) (.int .i64 m) (.slice (some ⟨g, 0, none⟩) L.length L.length), .pix g L.length L] = l := ⟨_, rfl⟩
      rw [el] at hS
      have hSd := hS.out.call (bdrewN (bref _) 1)
      have hO : VS W W.heap.size a0 cap xs l (some ⟨g, 0, none⟩) L sl K ps pK w2.heap.size (.int .i64 c) (.int .i64 h) (.int .i64 m) (.slice (some ⟨g, 0, none⟩) L.length L.length) w4.heap.size (.int .i64 X) (.int .i64 Y) (.int .i64 Z) (.slice sl K.length kc) w.heap.size (.int .i64 pX) (.int .i64 pY) (.int .i64 pZ) (.slice ps pK.length pc) wx.drew := ⟨Lib.hid ⟨hSd, hSd.en.isS g L.length (by rw [← el]; simp), is_below hsl'.out (bdrewN (bref _) 1), is_below hps'.out hSd.below⟩, hSd.en.box w2.heap.size (by rw [← el]; simp), hSd.en.box w4.heap.size (by rw [← el]; simp), c4_below hSd.below hq.out⟩
      obtain ⟨vr, evr⟩ : ∃ v, planeB X Y Z K = v := ⟨_, rfl⟩
      obtain ⟨v1, ev1⟩ : ∃ v, eqB c h m L X Y Z K = v := ⟨_, rfl⟩
      obtain ⟨v2, ev2⟩ : ∃ v, eqB pX pY pZ pK c h m L = v := ⟨_, rfl⟩
      have evr' := Lib.hid evr
      have ev1' := Lib.hid ev1
      have ev2' := Lib.hid ev2
      have el' := Lib.hid el
      have f1 : (vr != vr) = false := by simp
      have f2 : (v1 != v1) = false := by simp
      have f3 : (v2 != v2) = false := by simp
      clear evr ev1 ev2 el hSd hS hsl'
      first | go_must (go_region_held3 (fun w' => VS W W.heap.size a0 cap xs l (some ⟨g, 0, none⟩) L sl K ps pK w2.heap.size (.int .i64 c) (.int .i64 h) (.int .i64 m) (.slice (some ⟨g, 0, none⟩) L.length L.length) w4.heap.size (.int .i64 X) (.int .i64 Y) (.int .i64 Z) (.slice sl K.length kc) w.heap.size (.int .i64 pX) (.int .i64 pY) (.int .i64 pZ) (.slice ps pK.length pc) w') ((first | with_reducible exact hO | with_reducible exact vs_below hb ‹_›))
        (first
          | (go_at_call 17; ((with_reducible refine (pvalid_is hv'.out (some ⟨g, 0, none⟩) L.length _ (‹VS W W.heap.size a0 cap xs l (some ⟨g, 0, none⟩) L sl K ps pK w2.heap.size (.int .i64 c) (.int .i64 h) (.int .i64 m) (.slice (some ⟨g, 0, none⟩) L.length L.length) w4.heap.size (.int .i64 X) (.int .i64 Y) (.int .i64 Z) (.slice sl K.length kc) w.heap.size (.int .i64 pX) (.int .i64 pY) (.int .i64 pZ) (.slice ps pK.length pc) _›).1.out.2.1 (by have := hL.out; omega)).mono ?_); rintro e w5 ⟨rfl, hb⟩))
          | (go_at_call 17; ((with_reducible refine (pvalid_is evr'.out sl kc _ (‹VS W W.heap.size a0 cap xs l (some ⟨g, 0, none⟩) L sl K ps pK w2.heap.size (.int .i64 c) (.int .i64 h) (.int .i64 m) (.slice (some ⟨g, 0, none⟩) L.length L.length) w4.heap.size (.int .i64 X) (.int .i64 Y) (.int .i64 Z) (.slice sl K.length kc) w.heap.size (.int .i64 pX) (.int .i64 pY) (.int .i64 pZ) (.slice ps pK.length pc) _›).1.out.2.2.1 (by omega)).mono ?_); rintro e w5 ⟨rfl, hb⟩))
          | (go_at_call 16; ((with_reducible refine (rpvalid_is hv'.out (some ⟨g, 0, none⟩) L.length _ (‹VS W W.heap.size a0 cap xs l (some ⟨g, 0, none⟩) L sl K ps pK w2.heap.size (.int .i64 c) (.int .i64 h) (.int .i64 m) (.slice (some ⟨g, 0, none⟩) L.length L.length) w4.heap.size (.int .i64 X) (.int .i64 Y) (.int .i64 Z) (.slice sl K.length kc) w.heap.size (.int .i64 pX) (.int .i64 pY) (.int .i64 pZ) (.slice ps pK.length pc) _›).1.out.2.1 (by have := hL.out; omega)).mono ?_); rintro e w5 ⟨rfl, hb⟩))
          | (go_at_call 16; ((with_reducible refine (rpvalid_is evr'.out sl kc _ (‹VS W W.heap.size a0 cap xs l (some ⟨g, 0, none⟩) L sl K ps pK w2.heap.size (.int .i64 c) (.int .i64 h) (.int .i64 m) (.slice (some ⟨g, 0, none⟩) L.length L.length) w4.heap.size (.int .i64 X) (.int .i64 Y) (.int .i64 Z) (.slice sl K.length kc) w.heap.size (.int .i64 pX) (.int .i64 pY) (.int .i64 pZ) (.slice ps pK.length pc) _›).1.out.2.2.1 (by omega)).mono ?_); rintro e w5 ⟨rfl, hb⟩))
          | (go_at_call 15; ((with_reducible refine (pequal_is ev1'.out (some ⟨g, 0, none⟩) sl L.length kc _ (‹VS W W.heap.size a0 cap xs l (some ⟨g, 0, none⟩) L sl K ps pK w2.heap.size (.int .i64 c) (.int .i64 h) (.int .i64 m) (.slice (some ⟨g, 0, none⟩) L.length L.length) w4.heap.size (.int .i64 X) (.int .i64 Y) (.int .i64 Z) (.slice sl K.length kc) w.heap.size (.int .i64 pX) (.int .i64 pY) (.int .i64 pZ) (.slice ps pK.length pc) _›).1.out.2.1 (‹VS W W.heap.size a0 cap xs l (some ⟨g, 0, none⟩) L sl K ps pK w2.heap.size (.int .i64 c) (.int .i64 h) (.int .i64 m) (.slice (some ⟨g, 0, none⟩) L.length L.length) w4.heap.size (.int .i64 X) (.int .i64 Y) (.int .i64 Z) (.slice sl K.length kc) w.heap.size (.int .i64 pX) (.int .i64 pY) (.int .i64 pZ) (.slice ps pK.length pc) _›).1.out.2.2.1 (by have := hL.out; omega) (by omega)).mono ?_); rintro e w5 ⟨rfl, hb⟩))
          | (go_at_call 15; ((with_reducible refine (equal_self c h m L (some ⟨g, 0, none⟩) (some ⟨g, 0, none⟩) L.length L.length _ (‹VS W W.heap.size a0 cap xs l (some ⟨g, 0, none⟩) L sl K ps pK w2.heap.size (.int .i64 c) (.int .i64 h) (.int .i64 m) (.slice (some ⟨g, 0, none⟩) L.length L.length) w4.heap.size (.int .i64 X) (.int .i64 Y) (.int .i64 Z) (.slice sl K.length kc) w.heap.size (.int .i64 pX) (.int .i64 pY) (.int .i64 pZ) (.slice ps pK.length pc) _›).1.out.2.1 (‹VS W W.heap.size a0 cap xs l (some ⟨g, 0, none⟩) L sl K ps pK w2.heap.size (.int .i64 c) (.int .i64 h) (.int .i64 m) (.slice (some ⟨g, 0, none⟩) L.length L.length) w4.heap.size (.int .i64 X) (.int .i64 Y) (.int .i64 Z) (.slice sl K.length kc) w.heap.size (.int .i64 pX) (.int .i64 pY) (.int .i64 pZ) (.slice ps pK.length pc) _›).1.out.2.1 (by have := hL.out; omega)).mono ?_); rintro e w5 ⟨rfl, hb⟩))
          | (go_at_call 15; ((with_reducible refine (pequal_is ev2'.out ps (some ⟨g, 0, none⟩) pc L.length _ (‹VS W W.heap.size a0 cap xs l (some ⟨g, 0, none⟩) L sl K ps pK w2.heap.size (.int .i64 c) (.int .i64 h) (.int .i64 m) (.slice (some ⟨g, 0, none⟩) L.length L.length) w4.heap.size (.int .i64 X) (.int .i64 Y) (.int .i64 Z) (.slice sl K.length kc) w.heap.size (.int .i64 pX) (.int .i64 pY) (.int .i64 pZ) (.slice ps pK.length pc) _›).1.out.2.2.2 (‹VS W W.heap.size a0 cap xs l (some ⟨g, 0, none⟩) L sl K ps pK w2.heap.size (.int .i64 c) (.int .i64 h) (.int .i64 m) (.slice (some ⟨g, 0, none⟩) L.length L.length) w4.heap.size (.int .i64 X) (.int .i64 Y) (.int .i64 Z) (.slice sl K.length kc) w.heap.size (.int .i64 pX) (.int .i64 pY) (.int .i64 pZ) (.slice ps pK.length pc) _›).1.out.2.1 hpl (by have := hL.out; omega)).mono ?_); rintro e w5 ⟨rfl, hb⟩))
          | (go_at_call 21; ((with_reducible refine (requal_is ev1'.out (some ⟨g, 0, none⟩) sl L.length kc _ (‹VS W W.heap.size a0 cap xs l (some ⟨g, 0, none⟩) L sl K ps pK w2.heap.size (.int .i64 c) (.int .i64 h) (.int .i64 m) (.slice (some ⟨g, 0, none⟩) L.length L.length) w4.heap.size (.int .i64 X) (.int .i64 Y) (.int .i64 Z) (.slice sl K.length kc) w.heap.size (.int .i64 pX) (.int .i64 pY) (.int .i64 pZ) (.slice ps pK.length pc) _›).1.out.2.1 (‹VS W W.heap.size a0 cap xs l (some ⟨g, 0, none⟩) L sl K ps pK w2.heap.size (.int .i64 c) (.int .i64 h) (.int .i64 m) (.slice (some ⟨g, 0, none⟩) L.length L.length) w4.heap.size (.int .i64 X) (.int .i64 Y) (.int .i64 Z) (.slice sl K.length kc) w.heap.size (.int .i64 pX) (.int .i64 pY) (.int .i64 pZ) (.slice ps pK.length pc) _›).1.out.2.2.1 (by have := hL.out; omega) (by omega)).mono ?_); rintro e w5 ⟨rfl, hb⟩))
          | (go_at_call 21; ((with_reducible refine (requal_is ev2'.out ps (some ⟨g, 0, none⟩) pc L.length _ (‹VS W W.heap.size a0 cap xs l (some ⟨g, 0, none⟩) L sl K ps pK w2.heap.size (.int .i64 c) (.int .i64 h) (.int .i64 m) (.slice (some ⟨g, 0, none⟩) L.length L.length) w4.heap.size (.int .i64 X) (.int .i64 Y) (.int .i64 Z) (.slice sl K.length kc) w.heap.size (.int .i64 pX) (.int .i64 pY) (.int .i64 pZ) (.slice ps pK.length pc) _›).1.out.2.2.2 (‹VS W W.heap.size a0 cap xs l (some ⟨g, 0, none⟩) L sl K ps pK w2.heap.size (.int .i64 c) (.int .i64 h) (.int .i64 m) (.slice (some ⟨g, 0, none⟩) L.length L.length) w4.heap.size (.int .i64 X) (.int .i64 Y) (.int .i64 Z) (.slice sl K.length kc) w.heap.size (.int .i64 pX) (.int .i64 pY) (.int .i64 pZ) (.slice ps pK.length pc) _›).1.out.2.1 hpl (by have := hL.out; omega)).mono ?_); rintro e w5 ⟨rfl, hb⟩)))) | skip
      all_goals
        have hfin := Lib.hid ((show VS W W.heap.size a0 cap xs l (some ⟨g, 0, none⟩) L sl K ps pK w2.heap.size (.int .i64 c) (.int .i64 h) (.int .i64 m) (.slice (some ⟨g, 0, none⟩) L.length L.length) w4.heap.size (.int .i64 X) (.int .i64 Y) (.int .i64 Z) (.slice sl K.length kc) w.heap.size (.int .i64 pX) (.int .i64 pY) (.int .i64 pZ) (.slice ps pK.length pc) _ from ‹_›).1.out.1)
        rw [← el'.out] at hfin
        replace hfin := Lib.hid (hfin.out.drop 3)
        go_wp2_with fail
        go_roundw
        case rel => exact ⟨k + 1, by omega, by go_num, hfin⟩
        case measure => simp [intOf]; omega
    · obtain rfl : k = 4 := by omega
      obtain ⟨wl, rfl⟩ : ∃ wl, wl = wr := ⟨_, rfl⟩
      go_wp2_with fail
      refine (mod_any wd 70 _ (by omega) (by omega) hwd'.out.1 hwd'.out.2).mono ?_; rintro e wm ⟨rfl, rfl⟩
      go_wp2_with fail
      refine (mod_any wd 128 _ (by omega) (by omega) hwd'.out.1 hwd'.out.2).mono ?_; rintro e wm ⟨rfl, rfl⟩
      have e0 := Int.emod_nonneg wd (show (128 : Int) ≠ 0 by omega)
      have e1 := Int.emod_lt_of_pos wd (show 0 < (128 : Int) by omega)
      have hr := RowIs.pix (base := wl.heap.size) (row_new wl [wd, wd % 70, 1 + wd % 128]) (Nat.le_refl _) (by simp [maxLen])
      have hint : (ints [wd, wd % 70, 1 + wd % 128]).toArray = #[.int .i64 wd, .int .i64 (wd % 70), .int .i64 (1 + wd % 128)] := by simp [ints]
      rw [hint] at hr
      replace hS := Lib.hid (hS.out.made hr (balloc (bref _) _))
      clear hr hint
      go_wp2_with fail
      clear e0 e1
      go_loopw [16] (fun i wr2 => ∃ i2 : Nat, i2 ≤ 3 ∧ i = .int .i64 i2 ∧ Hid (St W W.heap.size a0 cap xs [.pix wl.heap.size 3 [wd, wd % 70, 1 + wd % 128]] wr2)) (fun i _ => 3 - (intOf i).toNat)
      case atStart => exact ⟨0, by omega, rfl, hS⟩
      case round =>
        clear hS
        obtain ⟨i, hi, rfl, hS⟩ := hrel
        by_cases hlt : i < 3
        · have hiI : (i : Int) < 3 := by omega
          obtain ⟨v, ev⟩ : ∃ v, [wd, wd % 70, 1 + wd % 128].getD i 0 = v := ⟨_, rfl⟩
          have hce0 := (hS.out.en.pix wl.heap.size 3 (L := [wd, wd % 70, 1 + wd % 128]) (by simp)).cell (k := i) hlt
          rw [ev] at hce0
          have hev := Lib.hid ev
          clear ev
          obtain ⟨X1, hX⟩ : ∃ X, orZ v (newO v ht mx) = X := ⟨_, rfl⟩
          obtain ⟨Y1, hY⟩ : ∃ Y, orZ ht (newO v ht mx) = Y := ⟨_, rfl⟩
          obtain ⟨Z1, hZ⟩ : ∃ Z, orZ mx (newO v ht mx) = Z := ⟨_, rfl⟩
          obtain ⟨K1, hK⟩ : ∃ K, (newO v ht mx).getD [] = K := ⟨_, rfl⟩
          obtain ⟨ok1, hok⟩ : ∃ v', (newO v ht mx).isSome = v' := ⟨_, rfl⟩
          have hKl := Lib.hid (show K1.length ≤ 4096 by rw [← hK]; exact newO_len)
          have hF := Lib.hid (And.intro hX (And.intro hY (And.intro hZ (And.intro hK hok))))
          clear hX hY hZ hK hok
          obtain ⟨X2, hX⟩ : ∃ X, orZ v (newO v (1 + ht % 128) (1 + mx % 4294967296)) = X := ⟨_, rfl⟩
          obtain ⟨Y2, hY⟩ : ∃ Y, orZ (1 + ht % 128) (newO v (1 + ht % 128) (1 + mx % 4294967296)) = Y := ⟨_, rfl⟩
          obtain ⟨Z2, hZ⟩ : ∃ Z, orZ (1 + mx % 4294967296) (newO v (1 + ht % 128) (1 + mx % 4294967296)) = Z := ⟨_, rfl⟩
          obtain ⟨K2, hK⟩ : ∃ K, (newO v (1 + ht % 128) (1 + mx % 4294967296)).getD [] = K := ⟨_, rfl⟩
          obtain ⟨ok2, hok⟩ : ∃ v', (newO v (1 + ht % 128) (1 + mx % 4294967296)).isSome = v' := ⟨_, rfl⟩
          have hKl2 := Lib.hid (show K2.length ≤ 4096 by rw [← hK]; exact newO_len)
          have hG := Lib.hid (And.intro hX (And.intro hY (And.intro hZ (And.intro hK hok))))
          clear hX hY hZ hK hok
          go_wp2_with fail
          refine (pnew_any v ht mx _).mono ?_; intro e wa hpost
          obtain ⟨sa, ca, rfl, hsa, hb⟩ := post_any (X := X1) (Y := Y1) (Z := Z1) (K := K1) (v := ok1) hpost hF.out.1 hF.out.2.1 hF.out.2.2.1 hF.out.2.2.2.1 hF.out.2.2.2.2
          replace hS := Lib.hid ((hS.out.call hb).new (.int .i64 X1) (.int .i64 Y1) (.int .i64 Z1) (.slice sa K1.length ca) 26)
          replace hsa := Lib.hid (is_below hsa (balloc (bref _) (.cells #[.int .i64 X1, .int .i64 Y1, .int .i64 Z1, .slice sa K1.length ca] 26)))
          clear hpost hb hce0
          have hce0 : (wa.alloc (.cells #[.int .i64 X1, .int .i64 Y1, .int .i64 Z1, .slice sa K1.length ca] 26)).cell? ⟨wl.heap.size, i, none⟩ = some (.int .i64 v) := by rw [(hS.out.en.pix wl.heap.size 3 (L := [wd, wd % 70, 1 + wd % 128]) (by simp)).cell (k := i) hlt]; exact congrArg (fun z => some (Value.int .i64 z)) hev.out
          go_wp2_with fail
          refine (rpnew_any v ht mx _).mono ?_; intro e wb hpost
          obtain ⟨sb, cb, rfl, hsb, hb⟩ := post_any (X := X1) (Y := Y1) (Z := Z1) (K := K1) (v := ok1) hpost hF.out.1 hF.out.2.1 hF.out.2.2.1 hF.out.2.2.2.1 hF.out.2.2.2.2
          replace hS := Lib.hid ((hS.out.call hb).new (.int .i64 X1) (.int .i64 Y1) (.int .i64 Z1) (.slice sb K1.length cb) 26)
          replace hsa := Lib.hid (is_below hsa.out (balloc hb (.cells #[.int .i64 X1, .int .i64 Y1, .int .i64 Z1, .slice sb K1.length cb] 26)))
          replace hsb := Lib.hid (is_below hsb (balloc (bref _) (.cells #[.int .i64 X1, .int .i64 Y1, .int .i64 Z1, .slice sb K1.length cb] 26)))
          clear hpost hb hce0
          go_upto_region 15 with fail
          obtain ⟨w1x, ewx⟩ : ∃ wx, (wb.alloc (.cells #[.int .i64 X1, .int .i64 Y1, .int .i64 Z1, .slice sb K1.length cb] 26)) = wx := ⟨_, rfl⟩
          rw [ewx] at hS hsa hsb
          have hcell := Lib.hid (show w1x.cell? ⟨wl.heap.size, i, none⟩ = some (.int .i64 v) by rw [(hS.out.en.pix wl.heap.size 3 (L := [wd, wd % 70, 1 + wd % 128]) (by simp)).cell (k := i) hlt]; exact congrArg (fun z => some (Value.int .i64 z)) hev.out)
          simp only [ewx]
          clear ewx
          have g0 := Int.emod_nonneg ht (show (128 : Int) ≠ 0 by omega)
          have g1 := Int.emod_lt_of_pos ht (show 0 < (128 : Int) by omega)
          have g2 := Int.emod_nonneg mx (show (4294967296 : Int) ≠ 0 by omega)
          have g3 := Int.emod_lt_of_pos mx (show 0 < (4294967296 : Int) by omega)
          have t1 : IntKind.i64.wrap (1 + ht % 128) = 1 + ht % 128 := IntWalk.i64_in _ (by omega)
          have t2 : IntKind.i64.wrap (1 + mx % 4294967296) = 1 + mx % 4294967296 := IntWalk.i64_in _ (by omega)
          clear g0 g1 g2 g3
          have hNS : NS w1x wl.heap.size i v w1x.drew := ns_of hcell.out (bdrewN (bref _) 1)

          go_cut [21, 22] (fun s t wy => ∃ b sl c, s = .pointer (some ⟨b, 0, none⟩) ∧ t = .bool ok2 ∧ Hid (VarIs w1x b (.int .i64 X2) (.int .i64 Y2) (.int .i64 Z2) (.slice sl K2.length c) sl K2 wy))
          case first =>
            first | go_must (go_region_held3 (fun w' => NS w1x wl.heap.size i v w') ((first | with_reducible exact hNS | assumption | with_reducible exact ns_of hcell.out (bthen (‹NS w1x wl.heap.size i v _›).1.out hb) | with_reducible exact ns_of hcell.out (balloc (‹NS w1x wl.heap.size i v _›).1.out _) | with_reducible exact ns_of hcell.out (bdrew1 (balloc (bref _) _)) | with_reducible exact ns_of hcell.out (balloc hBn.out _) | with_reducible exact ns_of hcell.out (bput4 hBn.out (Nat.le_refl _) _ _ _ _)))
              (first
                | (go_at_call 22; ((with_reducible refine (mod_any ht 128 _ (by omega) (by omega) hht'.out.1 hht'.out.2).mono ?_); rintro e wm ⟨rfl, rfl⟩))
                | (go_at_call 22; ((with_reducible refine (mod_any mx 4294967296 _ (by omega) (by omega) hmx'.out.1 hmx'.out.2).mono ?_); rintro e wm ⟨rfl, rfl⟩))
                | (go_at_call 23; refine (pnew_any v (1 + ht % 128) (1 + mx % 4294967296) _).mono ?_; intro e w5 hpost; obtain ⟨sl5, c5, rfl, hsl5, hb, hf5⟩ := post_far (X := X2) (Y := Y2) (Z := Z2) (K := K2) (v := ok2) hpost hG.out.1 hG.out.2.1 hG.out.2.2.1 hG.out.2.2.2.1 hG.out.2.2.2.2; clear hpost; have hBn := Lib.hid (bthen (‹NS w1x wl.heap.size i v _›).1.out hb);
                    (first
                      | (have hbW : Below (w1x.alloc (.cells #[.int .i64 0, .int .i64 0, .int .i64 0, .slice none 0 0] 26)).heap.size (w1x.alloc (.cells #[.int .i64 0, .int .i64 0, .int .i64 0, .slice none 0 0] 26)) w5 := ⟨hb.os, hb.tape, hb.output, hb.size, hb.block⟩; have hop := Lib.hid (Open4.below (open_new0 26 (.int .i64 0) (.int .i64 0) (.int .i64 0) (.slice none 0 0) w1x) hbW); have hbW' := Lib.hid hbW; clear hbW)
                      | (have hbW : Below w1x.heap.size w1x w5 := ⟨hb.os, hb.tape, hb.output, hb.size, hb.block⟩; have hop := Lib.hid (open_new0 26 (.int .i64 0) (.int .i64 0) (.int .i64 0) (.slice none 0 0) w5); have hbW' := Lib.hid hbW; clear hbW));
                    have hcc := open_val hop.out; have hc0 := hcc 0 (by omega); have hc1 := hcc 1 (by omega); have hc2 := hcc 2 (by omega); have hc3 := hcc 3 (by omega); clear hcc;
                    have hf0 := (hop.out 0 (by omega)).2; have hf1 := (hop.out 1 (by omega)).2; have hf2 := (hop.out 2 (by omega)).2; have hf3 := (hop.out 3 (by omega)).2))) | skip
            all_goals
              go_wp2_with fail
              go_meet
              first
                | exact ⟨_, sl5, c5, rfl, rfl, Lib.hid (VarIs.behind hbW'.out hsl5)⟩
                | exact ⟨_, sl5, c5, rfl, rfl, Lib.hid (VarIs.before (open_new0 26 (.int .i64 0) (.int .i64 0) (.int .i64 0) (.slice none 0 0)) hbW'.out hsl5 hf5)⟩
          case rest =>
            obtain ⟨b1, s1, c1, rfl, rfl, hV1⟩ := hcut
            clear hNS
            replace hcell := Lib.hid (bkeep hV1.out.below hcell.out)
            replace hS := Lib.hid (hS.out.call hV1.out.below)
            replace hsa := Lib.hid (is_below hsa.out hV1.out.below)
            replace hsb := Lib.hid (is_below hsb.out hV1.out.below)
            obtain ⟨w2x, rfl⟩ : ∃ w2x, w2x = wc := ⟨_, rfl⟩
            have hNS : NS w2x wl.heap.size i v w2x.drew := ns_of hcell.out (bdrewN (bref _) 1)
            go_upto_region 16 with fail
            go_cut [23, 24] (fun s t wy => ∃ b sl c, s = .pointer (some ⟨b, 0, none⟩) ∧ t = .bool ok2 ∧ Hid (VarIs w2x b (.int .i64 X2) (.int .i64 Y2) (.int .i64 Z2) (.slice sl K2.length c) sl K2 wy))
            case first =>
              first | go_must (go_region_held3 (fun w' => NS w2x wl.heap.size i v w') ((first | with_reducible exact hNS | assumption | with_reducible exact ns_of hcell.out (bthen (‹NS w2x wl.heap.size i v _›).1.out hb) | with_reducible exact ns_of hcell.out (balloc (‹NS w2x wl.heap.size i v _›).1.out _) | with_reducible exact ns_of hcell.out (bdrew1 (balloc (bref _) _)) | with_reducible exact ns_of hcell.out (balloc hBn.out _) | with_reducible exact ns_of hcell.out (bput4 hBn.out (Nat.le_refl _) _ _ _ _)))
                (first
                  | (go_at_call 22; ((with_reducible refine (mod_any ht 128 _ (by omega) (by omega) hht'.out.1 hht'.out.2).mono ?_); rintro e wm ⟨rfl, rfl⟩))
                  | (go_at_call 22; ((with_reducible refine (mod_any mx 4294967296 _ (by omega) (by omega) hmx'.out.1 hmx'.out.2).mono ?_); rintro e wm ⟨rfl, rfl⟩))
                  | (go_at_call 24; refine (rpnew_any v (1 + ht % 128) (1 + mx % 4294967296) _).mono ?_; intro e w5 hpost; obtain ⟨sl5, c5, rfl, hsl5, hb, hf5⟩ := post_far (X := X2) (Y := Y2) (Z := Z2) (K := K2) (v := ok2) hpost hG.out.1 hG.out.2.1 hG.out.2.2.1 hG.out.2.2.2.1 hG.out.2.2.2.2; clear hpost; have hBn := Lib.hid (bthen (‹NS w2x wl.heap.size i v _›).1.out hb);
                      (first
                        | (have hbW : Below (w2x.alloc (.cells #[.int .i64 0, .int .i64 0, .int .i64 0, .slice none 0 0] 26)).heap.size (w2x.alloc (.cells #[.int .i64 0, .int .i64 0, .int .i64 0, .slice none 0 0] 26)) w5 := ⟨hb.os, hb.tape, hb.output, hb.size, hb.block⟩; have hop := Lib.hid (Open4.below (open_new0 26 (.int .i64 0) (.int .i64 0) (.int .i64 0) (.slice none 0 0) w2x) hbW); have hbW' := Lib.hid hbW; clear hbW)
                        | (have hbW : Below w2x.heap.size w2x w5 := ⟨hb.os, hb.tape, hb.output, hb.size, hb.block⟩; have hop := Lib.hid (open_new0 26 (.int .i64 0) (.int .i64 0) (.int .i64 0) (.slice none 0 0) w5); have hbW' := Lib.hid hbW; clear hbW));
                      have hcc := open_val hop.out; have hc0 := hcc 0 (by omega); have hc1 := hcc 1 (by omega); have hc2 := hcc 2 (by omega); have hc3 := hcc 3 (by omega); clear hcc;
                      have hf0 := (hop.out 0 (by omega)).2; have hf1 := (hop.out 1 (by omega)).2; have hf2 := (hop.out 2 (by omega)).2; have hf3 := (hop.out 3 (by omega)).2))) | skip
              all_goals
                go_wp2_with fail
                go_meet
                first
                  | exact ⟨_, sl5, c5, rfl, rfl, Lib.hid (VarIs.behind hbW'.out hsl5)⟩
                  | exact ⟨_, sl5, c5, rfl, rfl, Lib.hid (VarIs.before (open_new0 26 (.int .i64 0) (.int .i64 0) (.int .i64 0) (.slice none 0 0)) hbW'.out hsl5 hf5)⟩
            case rest =>
              obtain ⟨b2, s2, c2, rfl, rfl, hV2⟩ := hcut
              obtain ⟨w3x, rfl⟩ : ∃ w3x, w3x = wc := ⟨_, rfl⟩
              replace hS := Lib.hid (hS.out.call hV2.out.below)
              replace hsa := Lib.hid (is_below hsa.out hV2.out.below)
              replace hsb := Lib.hid (is_below hsb.out hV2.out.below)
              have hs1 := Lib.hid (is_below hV1.out.isl hV2.out.below)
              have hs2 := Lib.hid hV2.out.isl
              have hc1 := Lib.hid (hV1.out.box.below hV2.out.below)
              have hc2 := Lib.hid hV2.out.box
              clear hNS hcell hV1 hV2
              obtain ⟨p0, p1, p2, p3⟩ := hS.out.en.box wa.heap.size (v0 := .int .i64 X1) (v1 := .int .i64 Y1) (v2 := .int .i64 Z1) (v3 := .slice sa K1.length ca) (by simp)
              obtain ⟨q0, q1, q2, q3⟩ := hS.out.en.box wb.heap.size (v0 := .int .i64 X1) (v1 := .int .i64 Y1) (v2 := .int .i64 Z1) (v3 := .slice sb K1.length cb) (by simp)
              have f1 : (ok1 != ok1) = false := by simp
              have f2 : (ok2 != ok2) = false := by simp
              clear t1 t2
              go_wp2_with fail
              refine (equal_self X1 Y1 Z1 K1 _ _ _ _ _ hsa.out hsb.out (by have := hKl.out; omega)).mono ?_; rintro e w4x ⟨rfl, hb⟩
              replace hS := Lib.hid (hS.out.call hb)
              replace hs1 := Lib.hid (is_below hs1.out hb)
              replace hs2 := Lib.hid (is_below hs2.out hb)
              replace hc1 := Lib.hid (hc1.out.below hb)
              replace hc2 := Lib.hid (hc2.out.below hb)
              clear hb p0 p1 p2 p3 q0 q1 q2 q3 hsa hsb
              obtain ⟨p0, p1, p2, p3⟩ := hc1.out.1
              obtain ⟨q0, q1, q2, q3⟩ := hc2.out.1
              go_wp2_with fail
              refine (requal_self X2 Y2 Z2 K2 _ _ _ _ _ hs1.out hs2.out hKl2.out).mono ?_; rintro e w5x ⟨rfl, hb⟩
              replace hS := Lib.hid ((hS.out.call hb).drop 2)
              clear hb p0 p1 p2 p3 q0 q1 q2 q3 hs1 hs2 hc1 hc2
              go_wp2_with fail
              go_roundw
              case rel => exact ⟨i + 1, by omega, by go_num, hS⟩
              case measure => simp [intOf]; omega
        · obtain rfl : i = 3 := by omega
          have hb0 := hS.out.below
          have hPS : PS W W.heap.size a0 cap xs [.pix wl.heap.size 3 [wd, wd % 70, 1 + wd % 128]] ps pK w.heap.size (.int .i64 pX) (.int .i64 pY) (.int .i64 pZ) (.slice ps pK.length pc) wr.drew := ⟨Lib.hid ⟨hS.out.call (bdrewN (bref _) 1), is_below hps'.out (bdrewN hb0 1)⟩, c4_below (bdrewN hb0 1) hq.out⟩
          obtain ⟨vp, evp⟩ : ∃ v, planeB pX pY pZ pK = v := ⟨_, rfl⟩
          have evp' := Lib.hid evp
          have hvv : (vp == vp) = true := by simp
          clear evp hS hb0
          go_upto_region 19 with fail
          by_cases h5 : (pK.length : Int) > 5000
          · have hd : decide ((pK.length : Int) > 5000) = true := by simpa using h5
            have hfin := Lib.hid hPS.1.out.1.below
            obtain ⟨p0, p1, p2, p3⟩ := hPS.2
            first | go_must (go_region_with (go_at_call 18; refine (sane_any _).mono ?_; rintro e w7 ⟨rfl, hb⟩)) | skip
            all_goals
              go_wp2_with fail
              go_ret
              exact ⟨rfl, bthen hBW.out (bthen hfin.out hb)⟩
          · have hd : decide ((pK.length : Int) > 5000) = false := by simpa using h5
            first | go_must (go_region_held3 (fun w' => PS W W.heap.size a0 cap xs [.pix wl.heap.size 3 [wd, wd % 70, 1 + wd % 128]] ps pK w.heap.size (.int .i64 pX) (.int .i64 pY) (.int .i64 pZ) (.slice ps pK.length pc) w') ((first | with_reducible exact hPS | with_reducible exact ps_below hb ‹_›))
              (first
                | (go_at_call 17; refine (pvalid_is evp'.out ps pc _ (‹PS W W.heap.size a0 cap xs [.pix wl.heap.size 3 [wd, wd % 70, 1 + wd % 128]] ps pK w.heap.size (.int .i64 pX) (.int .i64 pY) (.int .i64 pZ) (.slice ps pK.length pc) _›).1.out.2 hpl).mono ?_; rintro e w5 ⟨rfl, hb⟩)
                | (go_at_call 16; refine (rpvalid_is evp'.out ps pc _ (‹PS W W.heap.size a0 cap xs [.pix wl.heap.size 3 [wd, wd % 70, 1 + wd % 128]] ps pK w.heap.size (.int .i64 pX) (.int .i64 pY) (.int .i64 pZ) (.slice ps pK.length pc) _›).1.out.2 hpl).mono ?_; rintro e w6 ⟨rfl, hb⟩)
                | (go_at_call 18; refine (sane_any _).mono ?_; rintro e w7 ⟨rfl, hb⟩))) | skip
            all_goals
              have hfin := Lib.hid (show PS W W.heap.size a0 cap xs [.pix wl.heap.size 3 [wd, wd % 70, 1 + wd % 128]] ps pK w.heap.size (.int .i64 pX) (.int .i64 pY) (.int .i64 pZ) (.slice ps pK.length pc) _ from ‹_›).1.out.1.below
              go_wp2_with fail
              go_ret
              exact ⟨rfl, bthen hBW.out hfin.out⟩

end Go.Proofs.Ytpmajophkhihlaa
