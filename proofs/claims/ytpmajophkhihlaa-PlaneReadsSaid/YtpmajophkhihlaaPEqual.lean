/- Equal lists and equal planes, as contracts of slices.Equal and plane.Equal; plane.Valid. The contract of plane.At. -/
import Derived.Test.YtpmajophkhihlaaPNew2
import Derived.Test.YtpmajophkhihlaaPAt
namespace Go.Proofs.Ytpmajophkhihlaa
open Go.ChangeShapes Go.WideShapes Go.ChangeAt Go.RowKit
set_option linter.unusedVariables false
set_option linter.unusedSimpArgs false

theorem gsame_any (L K : List Int) (a b : Option Addr) (cap cap' : Nat) (w : World) (ha : SliceIs w a L) (hb : SliceIs w b K) (hl : L.length ≤ 9223372036854775807) (hk : K.length ≤ 9223372036854775807) :
    Calls Try.prog 38 #[.slice a L.length cap, .slice b K.length cap'] w (TestPost (decide (L = K)) w) := by
  by_cases hlen : (L.length : Int) = K.length
  · have ha' := Lib.hid ha
    have hb' := Lib.hid hb
    clear ha hb
    have hB := Lib.hid (bref w)
    go_enter Try.func38, Try.ntmps38
    go_wp2_with fail
    go_loopw [13] (fun i wr => ∃ k : Nat, k ≤ L.length ∧ i = .int .i64 k ∧ Hid (Agree L K k) ∧ ∃ n, wr = w.drewN n) (fun i _ => L.length - (intOf i).toNat)
    case atStart => exact ⟨0, by omega, rfl, Lib.hid (agree_zero L K), 0, rfl⟩
    case round =>
      obtain ⟨k, hk0, rfl, hP, nd, rfl⟩ := hrel
      by_cases hlt : k < L.length
      · obtain ⟨p, po, rfl, hcell⟩ := ha'.out k hlt
        obtain ⟨q, qo, rfl, hcell2⟩ := hb'.out k (by omega)
        have hkI : (k : Int) < L.length := by omega
        have hkI2 : (k : Int) < K.length := by omega
        obtain ⟨v, ev⟩ : ∃ v, L.getD k 0 = v := ⟨_, rfl⟩
        obtain ⟨u, eu⟩ : ∃ u, K.getD k 0 = u := ⟨_, rfl⟩
        rw [ev] at hcell
        rw [eu] at hcell2
        have ev' := Lib.hid ev
        have eu' := Lib.hid eu
        clear ev eu
        by_cases v0 : v = u
        · have hS := Lib.hid (agree_step hP.out (by rw [ev'.out, eu'.out]; exact v0))
          subst v0
          go_wp2_with fail
          go_quiet (fail)
          go_wp2_with fail
          go_roundw
          case rel => exact ⟨k + 1, by omega, by go_num, hS, _, rfl⟩
          case measure => simp [intOf]; omega
        · have hN := Lib.hid (same_ne (L := L) (K := K) (k := k) (by rw [ev'.out, eu'.out]; exact v0))
          go_wp2_with fail
          go_quiet (fail)
          go_wp2_with fail
          go_ret
          exact ⟨ret_bool hN.out, bdrewN (bdrewN hB.out _) _⟩
      · obtain rfl : k = L.length := by omega
        have hN := Lib.hid (same_t (by omega) hP.out)
        go_wp2_with fail
        go_ret
        exact ⟨ret_bool hN.out, bdrewN hB.out _⟩
  · have hN := Lib.hid (same_len hlen)
    clear ha hb
    go_enter Try.func38, Try.ntmps38
    go_wp2_with fail
    go_ret
    exact ⟨ret_bool hN.out, bref _⟩
theorem pequal_any (W H M W' H' M' : Int) (L K : List Int) (a b : Option Addr) (cap cap' : Nat) (w : World) (ha : SliceIs w a L) (hb : SliceIs w b K) (hl : L.length ≤ 9223372036854775807) (hk : K.length ≤ 9223372036854775807) :
    Calls Try.prog 15 #[.agg #[.int .i64 W, .int .i64 H, .int .i64 M, .slice a L.length cap], .agg #[.int .i64 W', .int .i64 H', .int .i64 M', .slice b K.length cap']] w (TestPost (eqB W H M L W' H' M' K) w) := by
  have ha' := Lib.hid ha
  have hb' := Lib.hid hb
  clear ha hb
  by_cases hw : W = W' ∧ H = H' ∧ M = M'
  · obtain ⟨rfl, rfl, rfl⟩ := hw
    have e : eqB W H M L W H M K = decide (L = K) := by simp [eqB]
    have e' := Lib.hid e
    clear e
    go_enter Try.func15, Try.ntmps15
    go_wp2_with fail
    refine (gsame_any L K a b cap cap' _ (is_below ha'.out (balloc (balloc (bref _) _) _)) (is_below hb'.out (balloc (balloc (bref _) _) _)) hl hk).mono ?_; rintro e w1 ⟨rfl, hB⟩
    go_wp2_with fail
    go_ret
    exact ⟨ret_bool e'.out.symm, bthen (balloc (balloc (bref _) _) _) hB⟩
  · have e : false = eqB W H M L W' H' M' K := by
      have : ¬ (W = W' ∧ H = H' ∧ M = M' ∧ L = K) := fun g => hw ⟨g.1, g.2.1, g.2.2.1⟩
      simp [eqB, this]
    have e' := Lib.hid e
    have h' : ¬ W = W' ∨ (W = W' ∧ ¬ H = H') ∨ (W = W' ∧ H = H' ∧ ¬ M = M') := by omega
    clear e hw
    go_enter Try.func15, Try.ntmps15
    rcases h' with h' | ⟨rfl, h'⟩ | ⟨rfl, rfl, h'⟩
    all_goals
      go_wp2_with fail
      go_ret
      exact ⟨ret_bool e'.out, balloc (balloc (bref _) _) _⟩
theorem valid_f {W H M : Int} {L : List Int} (h : sizeB W H M = false) : false = planeB W H M L := by simp [planeB, h]
theorem valid_len {W H M : Int} {L : List Int} (h : ¬ (L.length : Int) = W * H) : false = planeB W H M L := by simp [planeB, h]
theorem valid_e {W H M : Int} {L : List Int} {v : Bool} (hz : sizeB W H M = true) (hl : (L.length : Int) = W * H) (h1 : 1 ≤ L.length) (hv : v = decide (0 ≤ lowTo L L.length ∧ topTo L L.length ≤ M)) : v = planeB W H M L := by
  rw [hv, Bool.eq_iff_iff, planeB_t, pixs_ends h1, decide_eq_true_eq]
  exact ⟨fun h => ⟨hz, hl, h⟩, fun h => h.2.2⟩
theorem is_drewN {w : World} {a : Option Addr} {L : List Int} (h : SliceIs w a L) (n : Nat) : SliceIs (w.drewN n) a L := is_below h (bdrewN (bref w) n)
theorem min_q {L : List Int} {v : Int} (e : lowTo L L.length = v) (a : Option Addr) (cap : Nat) (w : World) (n : Nat) (hs : SliceIs w a L) (h1 : 1 ≤ L.length) (h2 : L.length ≤ 9223372036854775807) :
    Calls Try.prog 41 #[.slice a L.length cap] (w.drewN n) fun e w' => e = .returned (.int .i64 v) ∧ w' = w.drewN n :=
  (min_any L a cap (w.drewN n) (is_drewN hs n) h1 h2).mono fun _ _ ⟨he, hw⟩ => ⟨by rw [he, e], hw.symm⟩
theorem max_q {L : List Int} {v : Int} (e : topTo L L.length = v) (a : Option Addr) (cap : Nat) (w : World) (n : Nat) (hs : SliceIs w a L) (h1 : 1 ≤ L.length) (h2 : L.length ≤ 9223372036854775807) :
    Calls Try.prog 36 #[.slice a L.length cap] (w.drewN n) fun e w' => e = .returned (.int .i64 v) ∧ w' = w.drewN n :=
  (max_any L a cap (w.drewN n) (is_drewN hs n) h1 h2).mono fun _ _ ⟨he, hw⟩ => ⟨by rw [he, e], hw.symm⟩
set_option maxHeartbeats 1000000 in
theorem pvalid_any (W H M : Int) (L : List Int) (a : Option Addr) (cap : Nat) (w : World) (hs : SliceIs w a L) (hl : L.length ≤ 9223372036854775807) :
    Calls Try.prog 17 #[.agg #[.int .i64 W, .int .i64 H, .int .i64 M, .slice a L.length cap]] w (TestPost (planeB W H M L) w) := by
  rcases hz : sizeB W H M with _ | _
  · have hz' := Lib.hid hz
    have hE := Lib.hid (valid_f (L := L) hz)
    clear hz hs
    go_enter Try.func17, Try.ntmps17
    go_wp2_with fail
    refine (permit_is hz'.out _).mono ?_; rintro e w1 ⟨rfl, rfl⟩
    go_wp2_with fail
    go_ret
    exact ⟨ret_bool hE.out, balloc (bref _) _⟩
  · have hz' := Lib.hid hz
    obtain ⟨⟨w1, w2⟩, ⟨h1, h2⟩, hp, m1, m2⟩ := sizeB_t.1 hz
    obtain ⟨p1, p2⟩ := prod_bd w1 w2 h1 h2
    obtain ⟨P, eP⟩ : ∃ P, W * H = P := ⟨_, rfl⟩
    have eP' := Lib.hid eP
    have hs' := Lib.hid (is_below hs (balloc (bref w) (.cells #[.int .i64 W, .int .i64 H, .int .i64 M, .slice a L.length cap] 26)))
    by_cases hlen : (L.length : Int) = P
    · have hL1 : 1 ≤ L.length := by omega
      have hE := Lib.hid (fun v => valid_e (v := v) hz (by rw [eP]; exact hlen) hL1)
      obtain ⟨lo, elo⟩ : ∃ lo, lowTo L L.length = lo := ⟨_, rfl⟩
      obtain ⟨hi, ehi⟩ : ∃ hi, topTo L L.length = hi := ⟨_, rfl⟩
      rw [elo, ehi] at hE
      have elo' := Lib.hid elo
      have ehi' := Lib.hid ehi
      rw [eP] at hp p1 p2
      clear hz hs elo ehi
      by_cases g0 : 0 ≤ lo
      · have hd0 : decide (lo ≥ 0) = true := by simpa using g0
        have hE2 := Lib.hid (hE.out (decide (hi ≤ M)) (by simp [g0]))
        by_cases g1 : hi ≤ M
        · have hd1 : decide (hi ≤ M) = true := by simpa using g1
          rw [hd1] at hE2
          go_enter Try.func17, Try.ntmps17
          go_wp2_with fail
          refine (permit_is hz'.out _).mono ?_; rintro e w1 ⟨rfl, rfl⟩
          go_wp2_with fail
          go_quiet (first
            | (go_at_call 41; exact Calls.quiet_of_same (min_q elo'.out _ _ _ _ hs'.out hL1 hl))
            | (go_at_call 36; exact Calls.quiet_of_same (max_q ehi'.out _ _ _ _ hs'.out hL1 hl)))
          go_wp2_with fail
          go_ret
          exact ⟨ret_bool hE2.out, bdrewN (balloc (bref _) _) _⟩
        · have hd1 : decide (hi ≤ M) = false := by simpa using g1
          rw [hd1] at hE2
          go_enter Try.func17, Try.ntmps17
          go_wp2_with fail
          refine (permit_is hz'.out _).mono ?_; rintro e w1 ⟨rfl, rfl⟩
          go_wp2_with fail
          go_quiet (first
            | (go_at_call 41; exact Calls.quiet_of_same (min_q elo'.out _ _ _ _ hs'.out hL1 hl))
            | (go_at_call 36; exact Calls.quiet_of_same (max_q ehi'.out _ _ _ _ hs'.out hL1 hl)))
          go_wp2_with fail
          go_ret
          exact ⟨ret_bool hE2.out, bdrewN (balloc (bref _) _) _⟩
      · have hd0 : decide (lo ≥ 0) = false := by simpa using g0
        have hE2 := Lib.hid (hE.out false (by simp [g0]))
        go_enter Try.func17, Try.ntmps17
        go_wp2_with fail
        refine (permit_is hz'.out _).mono ?_; rintro e w1 ⟨rfl, rfl⟩
        go_wp2_with fail
        go_quiet ((go_at_call 41; exact Calls.quiet_of_same (min_q elo'.out _ _ _ _ hs'.out hL1 hl)))
        go_wp2_with fail
        go_ret
        exact ⟨ret_bool hE2.out, bdrewN (balloc (bref _) _) _⟩
    · have hE := Lib.hid (valid_len (W := W) (H := H) (M := M) (L := L) (by rw [eP]; exact hlen))
      rw [eP] at hp p1 p2
      clear hz hs
      go_enter Try.func17, Try.ntmps17
      go_wp2_with fail
      refine (permit_is hz'.out _).mono ?_; rintro e w1 ⟨rfl, rfl⟩
      go_wp2_with fail
      go_ret
      exact ⟨ret_bool hE.out, balloc (bref _) _⟩
open Go.ChangeShapes Go.WideShapes Go.ChangeAt Go.RowKit
set_option linter.unusedVariables false
set_option linter.unusedSimpArgs false

theorem pvalid_is {W H M : Int} {L : List Int} {v : Bool} (h : planeB W H M L = v) (a : Option Addr) (cap : Nat) (w : World) (hs : SliceIs w a L) (hl : L.length ≤ 9223372036854775807) :
    Calls Try.prog 17 #[.agg #[.int .i64 W, .int .i64 H, .int .i64 M, .slice a L.length cap]] w (TestPost v w) := by
  rw [← h]; exact pvalid_any W H M L a cap w hs hl
theorem edge_is' {q f m : Int} {v : Bool} (w : World) (h : edgeB q f m = v) : Calls Try.prog 44 #[.agg #[.int .i64 q, .int .i64 f], .int .i64 m] w (TestPost v w) := by
  rw [← h]; exact edge_any q f m w
theorem index_is' {i n p k : Int} {v : Bool} (w : World) (i0 : -9223372036854775808 ≤ i) (i1 : i ≤ 9223372036854775807) (h1 : idxN i n p = k) (h2 : idxB i n p = v) :
    Calls Try.prog 45 #[.int .i64 i, .int .i64 n, .int .i64 p] w fun e w' => e = .returned (.tuple #[.int .i64 k, .bool v]) ∧ w = w' := by
  rw [← h1, ← h2]; exact index_any i n p w i0 i1
set_option maxHeartbeats 1000000 in
theorem pat_any (W H M : Int) (L : List Int) (a : Option Addr) (cap : Nat) (q f x y : Int) (w : World) (hs : SliceIs w a L) (hl : L.length ≤ 9223372036854775807) (x0 : -9223372036854775808 ≤ x) (x1 : x ≤ 9223372036854775807) (y0 : -9223372036854775808 ≤ y) (y1 : y ≤ 9223372036854775807) :
    Calls Try.prog 26 #[.agg #[.int .i64 W, .int .i64 H, .int .i64 M, .slice a L.length cap], .agg #[.int .i64 q, .int .i64 f], .int .i64 x, .int .i64 y] w (NumPost (atN W H M L q f x y) w) := by
  have hs' := Lib.hid (is_below hs (balloc (balloc (bref w) (.cells #[.int .i64 W, .int .i64 H, .int .i64 M, .slice a L.length cap] 26)) (.cells #[.int .i64 q, .int .i64 f] 45)))
  clear hs
  rcases hv : planeB W H M L with _ | _
  · have hv' := Lib.hid hv
    have hN := Lib.hid (show 0 = atN W H M L q f x y by simp [atN, hv])
    clear hv
    go_enter Try.func26, Try.ntmps26
    go_wp2_with fail
    refine (pvalid_is hv'.out _ _ _ hs'.out hl).mono ?_; rintro e w1 ⟨rfl, hb⟩
    go_wp2_with fail
    go_ret
    exact ⟨ret_int hN.out, bthen (balloc (balloc (bref _) _) _) hb⟩
  · have hv' := Lib.hid hv
    rcases he : edgeB q f M with _ | _
    · have he' := Lib.hid he
      have hN := Lib.hid (show 0 = atN W H M L q f x y by simp [atN, he])
      clear hv he
      go_enter Try.func26, Try.ntmps26
      go_wp2_with fail
      refine (pvalid_is hv'.out _ _ _ hs'.out hl).mono ?_; rintro e w1 ⟨rfl, hb⟩
      obtain ⟨hc, hf⟩ := bcell hb
      obtain ⟨z0, z1⟩ := sz2 hb
      go_wp2_with fail
      refine (edge_is' _ he'.out).mono ?_; rintro e w2 ⟨rfl, hb2⟩
      go_wp2_with fail
      go_ret
      exact ⟨ret_int hN.out, bthen (bthen (balloc (balloc (bref _) _) _) hb) hb2⟩
    · have he' := Lib.hid he
      have hN0 := Lib.hid (show pixN W H L q f x y = atN W H M L q f x y by simp [atN, hv, he])
      obtain ⟨hz, hlen, _⟩ := planeB_t.1 hv
      obtain ⟨⟨w1, w2⟩, ⟨h1, h2⟩, hp, m1, m2⟩ := sizeB_t.1 hz
      have hlen' := Lib.hid hlen
      obtain ⟨kx, vx, hX0⟩ : ∃ k v, idxN x W q = k ∧ idxB x W q = v := ⟨_, _, rfl, rfl⟩
      obtain ⟨ky, vy, hY0⟩ : ∃ k v, idxN y H q = k ∧ idxB y H q = v := ⟨_, _, rfl, rfl⟩
      have hX' := Lib.hid hX0
      have hY' := Lib.hid hY0
      clear hv he hz hlen hX0 hY0
      go_enter Try.func26, Try.ntmps26
      go_wp2_with fail
      refine (pvalid_is hv'.out _ _ _ hs'.out hl).mono ?_; rintro e w1 ⟨rfl, hb⟩
      obtain ⟨hc, hf⟩ := bcell hb
      obtain ⟨z0, z1⟩ := sz2 hb
      have hs1 := Lib.hid (is_below hs'.out hb)
      go_wp2_with fail
      refine (edge_is' _ he'.out).mono ?_; rintro e w2 ⟨rfl, hb2⟩
      obtain ⟨hc2, hf2⟩ := bcell hb2
      have y2 := bmore hb2 z0
      have y3 := bmore hb2 z1
      have hs2 := Lib.hid (is_below hs1.out hb2)
      have hB := Lib.hid (bthen (bthen (balloc (balloc (bref _) _) _) hb) hb2)
      go_wp2_with fail
      refine (index_is' _ x0 x1 hX'.out.1 hX'.out.2).mono ?_; rintro e w3 ⟨rfl, rfl⟩
      go_wp2_with fail
      refine (index_is' _ y0 y1 hY'.out.1 hY'.out.2).mono ?_; rintro e w3 ⟨rfl, rfl⟩
      rcases hx : idxO x W q with _ | i
      · obtain ⟨rfl, rfl⟩ : kx = 0 ∧ vx = false := by rw [← hX'.out.1, ← hX'.out.2]; exact idx_nval' hx
        have hN := Lib.hid (show f = atN W H M L q f x y by rw [← hN0.out]; simp [pixN, pixO, hx])
        clear hx
        go_wp2_with fail
        go_ret
        exact ⟨ret_int hN.out, hB.out⟩
      · obtain ⟨rfl, rfl⟩ : kx = i ∧ vx = true := by rw [← hX'.out.1, ← hX'.out.2]; exact idx_val hx
        rcases hy : idxO y H q with _ | k
        · obtain ⟨rfl, rfl⟩ : ky = 0 ∧ vy = false := by rw [← hY'.out.1, ← hY'.out.2]; exact idx_nval' hy
          have hN := Lib.hid (show f = atN W H M L q f x y by rw [← hN0.out]; simp [pixN, pixO, hx, hy])
          clear hx hy
          go_wp2_with fail
          go_ret
          exact ⟨ret_int hN.out, hB.out⟩
        · obtain ⟨rfl, rfl⟩ : ky = k ∧ vy = true := by rw [← hY'.out.1, ← hY'.out.2]; exact idx_val hy
          obtain ⟨i0, i1, _, _⟩ := idx_bd hx
          obtain ⟨k0, k1, _, _⟩ := idx_bd hy
          obtain ⟨t0, t1⟩ := place_bd k0 k1 i0 i1
          obtain ⟨T, eT⟩ : ∃ T, ky * W = T := ⟨_, rfl⟩
          have hN := Lib.hid (show L.getD (T + kx).toNat 0 = atN W H M L q f x y by rw [← hN0.out]; simp [pixN, pixO, hx, hy, eT])
          rw [eT] at t0 t1
          have hlt : (T + kx).toNat < L.length := by have := hlen'.out; omega
          obtain ⟨b, off, rfl, hcell⟩ := hs2.out _ hlt
          have hlt2 : T + kx < L.length := by omega
          obtain ⟨j, ej⟩ : ∃ j : Nat, T + kx = j := ⟨(T + kx).toNat, by omega⟩
          have hj : (T + kx).toNat = j := by omega
          rw [hj] at hcell hN
          obtain ⟨V, eV⟩ : ∃ V, L.getD j 0 = V := ⟨_, rfl⟩
          rw [eV] at hcell hN
          clear hx hy eV hj hlt
          go_wp2_with fail
          go_ret
          exact ⟨ret_int hN.out, hB.out⟩
end Go.Proofs.Ytpmajophkhihlaa
