/- The developers' Check, pixel and sum of package convolve as contracts. -/
import Derived.Test.YtibmoibhbgbfoaaCCheck
import Derived.Test.YtibmoibhbgbfoaaPNew2
namespace Go.Proofs.Ytibmoibhbgbfoaa
open Go.ChangeShapes Go.WideShapes Go.ChangeAt Go.RowKit
set_option linter.unusedVariables false
set_option linter.unusedSimpArgs false

theorem cside_is {n : Int} {b : Bool} (h : sideK n = b) (w : World) : Calls Try.prog 26 #[.int .i64 n, .int .i64 9] w fun e w' => e = .returned (.bool b) ∧ w = w' := by
  rw [← h]
  clear h
  go_enter Try.func26, Try.ntmps26
  go_wp2
  all_goals
    go_ret
    refine ⟨ret_bool ?_, rfl⟩
    rw [Bool.eq_iff_iff, sideK_t]; simp <;> omega
theorem cvalue_is {n : Int} {b : Bool} (h : valueB n = b) (w : World) : Calls Try.prog 26 #[.int .i64 n, .int .i64 4294967296] w fun e w' => e = .returned (.bool b) ∧ w = w' := by
  rw [← h]
  clear h
  go_enter Try.func26, Try.ntmps26
  go_wp2
  all_goals
    go_ret
    refine ⟨ret_bool ?_, rfl⟩
    rw [Bool.eq_iff_iff, valueB_t]; simp <;> omega
theorem cbounds_b {L : List Int} {lo hi : Int} {b : Bool} {l : Nat} (hb : boundsB L lo hi = b) (el : L.length = l) (a : Option Addr) (cap : Nat) (w : World) (hs : SliceIs w a L) (hl : l ≤ 9223372036854775807) :
    Calls Try.prog 28 #[.slice a l cap, .int .i64 lo, .int .i64 hi] w fun e w' => ∃ x y : Int, e = .returned (.tuple #[.int .i64 x, .int .i64 y, .bool b]) ∧ Below w.heap.size w w' := by
  subst el
  rw [← hb]
  exact (fbounds_any L lo hi a cap w hs hl).mono fun e w' h => ⟨_, _, h.1, h.2⟩
theorem cweights_n {L : List Int} {c : Int} {l : Nat} (hc : weightsC L = c) (el : L.length = l) (a : Option Addr) (cap : Nat) (w : World) (hs : SliceIs w a L) (hl : l ≤ 9223372036854775807) : Calls Try.prog 27 #[.slice a l cap] w fun e w' => e = .returned (.int .i64 c) ∧ w = w' := by
  subst el; exact fweights_same hc a cap w hs hl
set_option maxHeartbeats 4000000 in
theorem ccheck_n (mx kw kh : Int) (L : List Int) (s out : Int) (l : Nat) (el : L.length = l) (a : Option Addr) (cap : Nat) (w : World) (hs : SliceIs w a L) (hl : l ≤ 9223372036854775807) :
    Calls Try.prog 12 #[.int .i64 mx, .int .i64 kw, .int .i64 kh, .slice a l cap, .int .i64 s, .int .i64 out] w (NumPost (checkC mx kw kh L s out) w) := by
  have HS := Lib.hid hs
  have HL := Lib.hid hl
  have EL := Lib.hid el
  have HB := Lib.hid (bref w)
  rcases check_cases mx kw kh L s out with ⟨h1, c⟩ | ⟨h1, h2, c⟩ | ⟨h1, h2, h3, c⟩ | ⟨⟨h1, h2, h3⟩, h4⟩
  · have H1 := Lib.hid h1
    rw [c]
    clear h1 c hs hl el
    go_enter Try.func12, Try.ntmps12
    go_wp2_with fail
    refine (cside_is H1.out _).mono ?_; rintro e w1 ⟨rfl, rfl⟩
    go_wp2_with fail
    go_returns
    exact ⟨rfl, HB.out⟩
  · have H1 := Lib.hid h1
    have H2 := Lib.hid h2
    rw [c]
    clear h1 h2 c hs hl el
    go_enter Try.func12, Try.ntmps12
    go_wp2_with fail
    refine (cside_is H1.out _).mono ?_; rintro e w1 ⟨rfl, rfl⟩
    go_wp2_with fail
    refine (cside_is H2.out _).mono ?_; rintro e w1 ⟨rfl, rfl⟩
    go_wp2_with fail
    go_returns
    exact ⟨rfl, HB.out⟩
  all_goals
    have b1 := sideK_t.1 h1
    have b2 := sideK_t.1 h2
    obtain ⟨pr, epr⟩ : ∃ pr, kw * kh = pr := ⟨_, rfl⟩
    have bp : 1 ≤ pr ∧ pr ≤ 81 := by
      have k1 := Int.mul_pos (show 0 < kw by omega) (show 0 < kh by omega)
      have k2 : kw * kh ≤ 9 * 9 := Int.mul_le_mul b1.2 b2.2 (by omega) (by omega)
      omega
    have wp : wrap64 (kw * kh) = pr := by rw [epr]; unfold wrap64; omega
    have H1 := Lib.hid h1
    have H2 := Lib.hid h2
    rw [epr, el] at h3
  · have ne : ((l : Int) == pr) = false := by simpa using h3
    rw [c]
    clear h1 h2 c hs hl el b1 b2 bp epr
    go_enter Try.func12, Try.ntmps12
    go_wp2_with fail
    refine (cside_is H1.out _).mono ?_; rintro e w1 ⟨rfl, rfl⟩
    go_wp2_with fail
    refine (cside_is H2.out _).mono ?_; rintro e w1 ⟨rfl, rfl⟩
    go_wp2_with fail
    go_returns
    exact ⟨rfl, HB.out⟩
  · rw [← h3] at wp
    have WC : Hid (weightsC L = if L.all weightB = true then 0 else 10) := Lib.hid (by unfold weightsC; rw [if_neg (by omega)])
    clear h1 h2 hs hl el b1 b2 bp epr h3
    rcases h4 with ⟨h4, c⟩ | ⟨h4, h5, c⟩ | ⟨h4, h5, h6⟩
    · have H4 := Lib.hid (show weightsC L = 10 by rw [WC.out, h4]; rfl)
      rw [c]
      clear h4 c WC
      go_enter Try.func12, Try.ntmps12
      go_wp2_with fail
      refine (cside_is H1.out _).mono ?_; rintro e w1 ⟨rfl, rfl⟩
      go_wp2_with fail
      refine (cside_is H2.out _).mono ?_; rintro e w1 ⟨rfl, rfl⟩
      go_wp2_with fail
      refine (cweights_n H4.out EL.out _ _ _ HS.out HL.out).mono ?_; rintro e w1 ⟨rfl, rfl⟩
      go_wp2_with fail
      go_returns
      exact ⟨rfl, HB.out⟩
    · have H4 := Lib.hid (show weightsC L = 0 by rw [WC.out, h4]; rfl)
      rw [c]
      clear h4 c WC
      rcases (show s < 0 ∨ (¬ s < 0 ∧ s > 24) by unfold shiftB at h5; simp at h5; omega) with h5 | ⟨h5, h6⟩
      all_goals
        go_enter Try.func12, Try.ntmps12
        go_wp2_with fail
        refine (cside_is H1.out _).mono ?_; rintro e w1 ⟨rfl, rfl⟩
        go_wp2_with fail
        refine (cside_is H2.out _).mono ?_; rintro e w1 ⟨rfl, rfl⟩
        go_wp2_with fail
        refine (cweights_n H4.out EL.out _ _ _ HS.out HL.out).mono ?_; rintro e w1 ⟨rfl, rfl⟩
        go_wp2_with fail
        go_returns
        exact ⟨rfl, HB.out⟩
    · have H4 := Lib.hid (show weightsC L = 0 by rw [WC.out, h4]; rfl)
      have h50 : ¬ s < 0 := by have := shiftB_t.1 h5; omega
      have h51 : ¬ s > 24 := by have := shiftB_t.1 h5; omega
      clear h4 h5 WC
      rcases h6 with ⟨h6, c⟩ | ⟨h6, h7, c⟩ | ⟨h6, h7, h8⟩
      · have H6 := Lib.hid h6
        rw [c]
        clear h6 c
        go_enter Try.func12, Try.ntmps12
        go_wp2_with fail
        refine (cside_is H1.out _).mono ?_; rintro e w1 ⟨rfl, rfl⟩
        go_wp2_with fail
        refine (cside_is H2.out _).mono ?_; rintro e w1 ⟨rfl, rfl⟩
        go_wp2_with fail
        refine (cweights_n H4.out EL.out _ _ _ HS.out HL.out).mono ?_; rintro e w1 ⟨rfl, rfl⟩
        go_wp2_with fail
        refine (cvalue_is H6.out _).mono ?_; rintro e w1 ⟨rfl, rfl⟩
        go_wp2_with fail
        go_returns
        exact ⟨rfl, HB.out⟩
      · have H6 := Lib.hid h6
        have H7 := Lib.hid h7
        rw [c]
        clear h6 h7 c
        go_enter Try.func12, Try.ntmps12
        go_wp2_with fail
        refine (cside_is H1.out _).mono ?_; rintro e w1 ⟨rfl, rfl⟩
        go_wp2_with fail
        refine (cside_is H2.out _).mono ?_; rintro e w1 ⟨rfl, rfl⟩
        go_wp2_with fail
        refine (cweights_n H4.out EL.out _ _ _ HS.out HL.out).mono ?_; rintro e w1 ⟨rfl, rfl⟩
        go_wp2_with fail
        refine (cvalue_is H6.out _).mono ?_; rintro e w1 ⟨rfl, rfl⟩
        go_wp2_with fail
        refine (cvalue_is H7.out _).mono ?_; rintro e w1 ⟨rfl, rfl⟩
        go_wp2_with fail
        go_returns
        exact ⟨rfl, HB.out⟩
      · have H6 := Lib.hid h6
        have H7 := Lib.hid h7
        clear h6 h7
        obtain ⟨bb, ebb⟩ : ∃ bb, boundsB L 0 mx = bb := ⟨_, rfl⟩
        have H8 := Lib.hid ebb
        rw [ebb] at h8
        rcases h8 with ⟨rfl, c⟩ | ⟨rfl, c⟩
        all_goals
          rw [c]
          clear c ebb
          go_enter Try.func12, Try.ntmps12
          go_wp2_with fail
          refine (cside_is H1.out _).mono ?_; rintro e w1 ⟨rfl, rfl⟩
          go_wp2_with fail
          refine (cside_is H2.out _).mono ?_; rintro e w1 ⟨rfl, rfl⟩
          go_wp2_with fail
          refine (cweights_n H4.out EL.out _ _ _ HS.out HL.out).mono ?_; rintro e w1 ⟨rfl, rfl⟩
          go_wp2_with fail
          refine (cvalue_is H6.out _).mono ?_; rintro e w1 ⟨rfl, rfl⟩
          go_wp2_with fail
          refine (cvalue_is H7.out _).mono ?_; rintro e w1 ⟨rfl, rfl⟩
          go_wp2_with fail
          refine (cbounds_b H8.out EL.out _ _ _ HS.out HL.out).mono ?_; rintro e w1 ⟨x, y, rfl, hb⟩
          have HB1 := Lib.hid (bthen HB.out hb)
          clear hb
          go_wp2_with fail
          go_returns
          exact ⟨rfl, HB1.out⟩
theorem cidx_is {i n p k : Int} {v : Bool} (w : World) (i0 : -9223372036854775808 ≤ i) (i1 : i ≤ 9223372036854775807) (h1 : idxN i n p = k) (h2 : idxB i n p = v) :
    Calls Try.prog 69 #[.int .i64 i, .int .i64 n, .int .i64 p] w fun e w' => e = .returned (.tuple #[.int .i64 k, .bool v]) ∧ w = w' := by
  rw [← h1, ← h2]; exact index_any i n p w i0 i1
/-- a pixel outside of the plane -/
def Beyond (W H x y : Int) : Prop := ¬ 0 ≤ x ∨ (0 ≤ x ∧ ¬ x < W) ∨ (0 ≤ x ∧ x < W ∧ ¬ 0 ≤ y) ∨ (0 ≤ x ∧ x < W ∧ 0 ≤ y ∧ ¬ y < H)
set_option maxHeartbeats 4000000 in
theorem cpix_out (W H M : Int) (L : List Int) (a : Option Addr) (cap : Nat) (q f x y : Int) (w : World) (hs : SliceIs w a L) (hv : planeB W H M L = true) (x0 : -9223372036854775808 ≤ x) (x1 : x ≤ 9223372036854775807) (y0 : -9223372036854775808 ≤ y) (y1 : y ≤ 9223372036854775807) (hout : Beyond W H x y) :
    Calls Try.prog 63 #[.agg #[.int .i64 W, .int .i64 H, .int .i64 M, .slice a L.length cap], .agg #[.int .i64 q, .int .i64 f], .int .i64 x, .int .i64 y] w (NumPost (pixN W H L q f x y) w) := by
  obtain ⟨hz, hlen, _⟩ := planeB_t.1 hv
  obtain ⟨⟨w1, w2⟩, ⟨h1, h2⟩, hp, m1, m2⟩ := sizeB_t.1 hz
  have hs' := Lib.hid hs
  have hlen' := Lib.hid hlen
  clear hs hv hz hlen
  rcases hx : idxO x W q with _ | i
  · have hX := Lib.hid (idx_nval' hx)
    have hN := Lib.hid (show f = pixN W H L q f x y by simp [pixN, pixO, hx])
    obtain ⟨k, v, hY⟩ : ∃ k v, idxN y H q = k ∧ idxB y H q = v := ⟨_, _, rfl, rfl⟩
    have hY' := Lib.hid hY
    clear hx hY
    rcases hout with g1 | ⟨g1, g2⟩ | ⟨g1, g2, g3⟩ | ⟨g1, g2, g3, g4⟩
    all_goals
      go_enter Try.func63, Try.ntmps63
      go_wp2_with fail
      refine (cidx_is _ x0 x1 hX.out.1 hX.out.2).mono ?_; rintro e w1 ⟨rfl, rfl⟩
      go_wp2_with fail
      refine (cidx_is _ y0 y1 hY'.out.1 hY'.out.2).mono ?_; rintro e w1 ⟨rfl, rfl⟩
      go_wp2_with fail
      go_ret
      exact ⟨ret_int hN.out, balloc (balloc (bref _) _) _⟩
  · have hX := Lib.hid (idx_val hx)
    rcases hy : idxO y H q with _ | k
    · have hY := Lib.hid (idx_nval' hy)
      have hN := Lib.hid (show f = pixN W H L q f x y by simp [pixN, pixO, hx, hy])
      clear hx hy
      rcases hout with g1 | ⟨g1, g2⟩ | ⟨g1, g2, g3⟩ | ⟨g1, g2, g3, g4⟩
      all_goals
        go_enter Try.func63, Try.ntmps63
        go_wp2_with fail
        refine (cidx_is _ x0 x1 hX.out.1 hX.out.2).mono ?_; rintro e w1 ⟨rfl, rfl⟩
        go_wp2_with fail
        refine (cidx_is _ y0 y1 hY.out.1 hY.out.2).mono ?_; rintro e w1 ⟨rfl, rfl⟩
        go_wp2_with fail
        go_ret
        exact ⟨ret_int hN.out, balloc (balloc (bref _) _) _⟩
    · have hY := Lib.hid (idx_val hy)
      obtain ⟨i0, i1, _, _⟩ := idx_bd hx
      obtain ⟨k0, k1, _, _⟩ := idx_bd hy
      obtain ⟨t0, t1⟩ := place_bd k0 k1 i0 i1
      obtain ⟨T, eT⟩ : ∃ T, k * W = T := ⟨_, rfl⟩
      have hN := Lib.hid (show L.getD (T + i).toNat 0 = pixN W H L q f x y by simp [pixN, pixO, hx, hy, eT])
      rw [eT] at t0 t1
      have hlt : (T + i).toNat < L.length := by have := hlen'.out; omega
      have hb := balloc (balloc (bref w) (.cells #[.int .i64 W, .int .i64 H, .int .i64 M, .slice a L.length cap] 35)) (.cells #[.int .i64 q, .int .i64 f] 38)
      obtain ⟨b, off, rfl, hcell⟩ := (is_below hs'.out hb) _ hlt
      have hlt2 : T + i < L.length := by omega
      obtain ⟨j, ej⟩ : ∃ j : Nat, T + i = j := ⟨(T + i).toNat, by omega⟩
      have hj : (T + i).toNat = j := by omega
      rw [hj] at hcell hN
      obtain ⟨V, eV⟩ : ∃ V, L.getD j 0 = V := ⟨_, rfl⟩
      rw [eV] at hcell hN
      clear hx hy eV hj
      rcases hout with g1 | ⟨g1, g2⟩ | ⟨g1, g2, g3⟩ | ⟨g1, g2, g3, g4⟩
      all_goals
        go_enter Try.func63, Try.ntmps63
        go_wp2_with fail
        refine (cidx_is _ x0 x1 hX.out.1 hX.out.2).mono ?_; rintro e w1 ⟨rfl, rfl⟩
        go_wp2_with fail
        refine (cidx_is _ y0 y1 hY.out.1 hY.out.2).mono ?_; rintro e w1 ⟨rfl, rfl⟩
        go_wp2_with fail
        go_ret
        exact ⟨ret_int hN.out, balloc (balloc (bref _) _) _⟩
set_option maxHeartbeats 4000000 in
theorem cpix_in (W H M : Int) (L : List Int) (a : Option Addr) (cap : Nat) (q f x y : Int) (w : World) (hs : SliceIs w a L) (hv : planeB W H M L = true) (hq : 0 ≤ q ∧ q ≤ 3) (g1 : 0 ≤ x) (g2 : x < W) (g3 : 0 ≤ y) (g4 : y < H) :
    Calls Try.prog 63 #[.agg #[.int .i64 W, .int .i64 H, .int .i64 M, .slice a L.length cap], .agg #[.int .i64 q, .int .i64 f], .int .i64 x, .int .i64 y] w (NumPost (pixN W H L q f x y) w) := by
  obtain ⟨hz, hlen, _⟩ := planeB_t.1 hv
  obtain ⟨⟨w1, w2⟩, ⟨h1, h2⟩, hp, m1, m2⟩ := sizeB_t.1 hz
  have hs' := Lib.hid hs
  have hlen' := Lib.hid hlen
  clear hs hv hz hlen
  have hx := idx_self w1 w2 g1 g2 hq
  have hy := idx_self h1 h2 g3 g4 hq
  obtain ⟨t0, t1⟩ := place_bd g3 g4 g1 g2
  obtain ⟨T, eT⟩ : ∃ T, y * W = T := ⟨_, rfl⟩
  have hN := Lib.hid (show L.getD (T + x).toNat 0 = pixN W H L q f x y by simp [pixN, pixO, hx, hy, eT])
  rw [eT] at t0 t1
  have hlt : (T + x).toNat < L.length := by have := hlen'.out; omega
  have hb := balloc (balloc (bref w) (.cells #[.int .i64 W, .int .i64 H, .int .i64 M, .slice a L.length cap] 35)) (.cells #[.int .i64 q, .int .i64 f] 38)
  obtain ⟨b, off, rfl, hcell⟩ := (is_below hs'.out hb) _ hlt
  have hlt2 : T + x < L.length := by omega
  obtain ⟨j, ej⟩ : ∃ j : Nat, T + x = j := ⟨(T + x).toNat, by omega⟩
  have hj : (T + x).toNat = j := by omega
  rw [hj] at hcell hN
  obtain ⟨V, eV⟩ : ∃ V, L.getD j 0 = V := ⟨_, rfl⟩
  rw [eV] at hcell hN
  clear hx hy eV hj
  go_enter Try.func63, Try.ntmps63
  go_wp2_with fail
  go_ret
  exact ⟨ret_int hN.out, balloc (balloc (bref _) _) _⟩
theorem cpix_is {W H M : Int} {L : List Int} {q f x y p : Int} (h : pixN W H L q f x y = p) (a : Option Addr) (cap : Nat) (w : World) (hs : SliceIs w a L) (hv : planeB W H M L = true) (hq : 0 ≤ q ∧ q ≤ 3) (x0 : -9223372036854775808 ≤ x) (x1 : x ≤ 9223372036854775807) (y0 : -9223372036854775808 ≤ y) (y1 : y ≤ 9223372036854775807) :
    Calls Try.prog 63 #[.agg #[.int .i64 W, .int .i64 H, .int .i64 M, .slice a L.length cap], .agg #[.int .i64 q, .int .i64 f], .int .i64 x, .int .i64 y] w (NumPost p w) := by
  rw [← h]
  by_cases hi : 0 ≤ x ∧ x < W ∧ 0 ≤ y ∧ y < H
  · exact cpix_in W H M L a cap q f x y w hs hv hq hi.1 hi.2.1 hi.2.2.1 hi.2.2.2
  · exact cpix_out W H M L a cap q f x y w hs hv x0 x1 y0 y1 (by unfold Beyond; omega)
end Go.Proofs.Ytibmoibhbgbfoaa
