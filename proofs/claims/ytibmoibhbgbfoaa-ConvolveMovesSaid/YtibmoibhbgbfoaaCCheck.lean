/- Check of the reference of layer 9 as a contract. The memory of Tile of the reference of layer 9: its arguments in blocks of their own; where there is an error. Tile of the reference of layer 9 where the kernel or the rectangle is at fault. -/
import Derived.Test.YtibmoibhbgbfoaaCPlain
import Derived.Test.YtibmoibhbgbfoaaHPlain
import Derived.Test.YtibmoibhbgbfoaaPRCrop
import Derived.Test.YtibmoibhbgbfoaaQuietIn
import Derived.Deep.DeepCutAuto
namespace Go.Proofs.Ytibmoibhbgbfoaa
open Go.ChangeShapes Go.WideShapes Go.ChangeAt Go.RowKit
set_option linter.unusedVariables false
set_option linter.unusedSimpArgs false

theorem rsideK_is {n : Int} {b : Bool} (h : sideK n = b) (w : World) : Calls Try.prog 29 #[.int .i64 n] w fun e w' => e = .returned (.bool b) ∧ w = w' := by
  rw [← h]
  clear h
  go_enter Try.func29, Try.ntmps29
  go_wp2
  all_goals
    go_ret
    refine ⟨ret_bool ?_, rfl⟩
    rw [Bool.eq_iff_iff, sideK_t]; simp <;> omega
theorem rvalueB_is {n : Int} {b : Bool} (h : valueB n = b) (w : World) : Calls Try.prog 32 #[.int .i64 n] w fun e w' => e = .returned (.bool b) ∧ w = w' := by
  rw [← h]
  clear h
  go_enter Try.func32, Try.ntmps32
  go_wp2
  all_goals
    go_ret
    refine ⟨ret_bool ?_, rfl⟩
    rw [Bool.eq_iff_iff, valueB_t]; simp <;> omega
theorem rbounds_b {L : List Int} {lo hi : Int} {b : Bool} {l : Nat} (hb : boundsB L lo hi = b) (el : L.length = l) (a : Option Addr) (cap : Nat) (w : World) (hs : SliceIs w a L) (hl : l ≤ 9223372036854775807) :
    Calls Try.prog 33 #[.slice a l cap, .int .i64 lo, .int .i64 hi] w fun e w' => ∃ x y : Int, e = .returned (.tuple #[.int .i64 x, .int .i64 y, .bool b]) ∧ Below w.heap.size w w' := by
  subst el
  rw [← hb]
  exact (rbounds_any L lo hi a cap w hs hl).mono fun e w' h => ⟨_, _, h.1, h.2⟩
theorem rareW_n {L : List Int} {b : Bool} {l : Nat} (hb : L.all weightB = b) (el : L.length = l) (a : Option Addr) (cap : Nat) (w : World) (hs : SliceIs w a L) (hl : l ≤ 9223372036854775807) : Calls Try.prog 30 #[.slice a l cap] w fun e w' => e = .returned (.bool b) ∧ w = w' := by
  subst el; exact rareW_is hb a cap w hs hl
set_option maxHeartbeats 4000000 in
theorem rcheck_n (mx kw kh : Int) (L : List Int) (s out : Int) (l : Nat) (el : L.length = l) (a : Option Addr) (cap : Nat) (w : World) (hs : SliceIs w a L) (hl : l ≤ 9223372036854775807) :
    Calls Try.prog 13 #[.int .i64 mx, .int .i64 kw, .int .i64 kh, .slice a l cap, .int .i64 s, .int .i64 out] w (NumPost (checkC mx kw kh L s out) w) := by
  have HS := Lib.hid hs
  have HL := Lib.hid hl
  have EL := Lib.hid el
  have HB := Lib.hid (bref w)
  rcases check_cases mx kw kh L s out with ⟨h1, c⟩ | ⟨h1, h2, c⟩ | ⟨h1, h2, h3, c⟩ | ⟨⟨h1, h2, h3⟩, h4⟩
  · have H1 := Lib.hid h1
    rw [c]
    clear h1 c hs hl el
    go_enter Try.func13, Try.ntmps13
    go_wp2_with fail
    refine (rsideK_is H1.out _).mono ?_; rintro e w1 ⟨rfl, rfl⟩
    go_wp2_with fail
    go_returns
    exact ⟨rfl, HB.out⟩
  · have H1 := Lib.hid h1
    have H2 := Lib.hid h2
    rw [c]
    clear h1 h2 c hs hl el
    go_enter Try.func13, Try.ntmps13
    go_wp2_with fail
    refine (rsideK_is H1.out _).mono ?_; rintro e w1 ⟨rfl, rfl⟩
    go_wp2_with fail
    refine (rsideK_is H2.out _).mono ?_; rintro e w1 ⟨rfl, rfl⟩
    go_wp2_with fail
    go_returns
    exact ⟨rfl, HB.out⟩
  all_goals
    have b1 := sideK_t.1 h1
    have b2 := sideK_t.1 h2
    obtain ⟨pr, epr⟩ : ∃ pr, kw * kh = pr := ⟨_, rfl⟩
    have bp : 0 ≤ pr ∧ pr ≤ 81 := by
      have k1 := Int.mul_nonneg (show 0 ≤ kw by omega) (show 0 ≤ kh by omega)
      have k2 : kw * kh ≤ 9 * 9 := Int.mul_le_mul b1.2 b2.2 (by omega) (by omega)
      omega
    have wp : wrap64 (kw * kh) = pr := by rw [epr]; unfold wrap64; omega
    have H1 := Lib.hid h1
    have H2 := Lib.hid h2
    rw [epr, el] at h3
  · have ne : ((l : Int) == pr) = false := by simpa using h3
    rw [c]
    clear h1 h2 c hs hl el b1 b2 bp epr
    go_enter Try.func13, Try.ntmps13
    go_wp2_with fail
    refine (rsideK_is H1.out _).mono ?_; rintro e w1 ⟨rfl, rfl⟩
    go_wp2_with fail
    refine (rsideK_is H2.out _).mono ?_; rintro e w1 ⟨rfl, rfl⟩
    go_wp2_with fail
    go_returns
    exact ⟨rfl, HB.out⟩
  · rw [← h3] at wp
    clear h1 h2 hs hl el b1 b2 bp epr h3
    rcases h4 with ⟨h4, c⟩ | ⟨h4, h5, c⟩ | ⟨h4, h5, h6⟩
    · have H4 := Lib.hid h4
      rw [c]
      clear h4 c
      go_enter Try.func13, Try.ntmps13
      go_wp2_with fail
      refine (rsideK_is H1.out _).mono ?_; rintro e w1 ⟨rfl, rfl⟩
      go_wp2_with fail
      refine (rsideK_is H2.out _).mono ?_; rintro e w1 ⟨rfl, rfl⟩
      go_wp2_with fail
      refine (rareW_n H4.out EL.out _ _ _ HS.out HL.out).mono ?_; rintro e w1 ⟨rfl, rfl⟩
      go_wp2_with fail
      go_returns
      exact ⟨rfl, HB.out⟩
    · have H4 := Lib.hid h4
      have H5 := Lib.hid h5
      rw [c]
      clear h4 h5 c
      go_enter Try.func13, Try.ntmps13
      go_wp2_with fail
      refine (rsideK_is H1.out _).mono ?_; rintro e w1 ⟨rfl, rfl⟩
      go_wp2_with fail
      refine (rsideK_is H2.out _).mono ?_; rintro e w1 ⟨rfl, rfl⟩
      go_wp2_with fail
      refine (rareW_n H4.out EL.out _ _ _ HS.out HL.out).mono ?_; rintro e w1 ⟨rfl, rfl⟩
      go_wp2_with fail
      refine (rshiftB_is H5.out _).mono ?_; rintro e w1 ⟨rfl, rfl⟩
      go_wp2_with fail
      go_returns
      exact ⟨rfl, HB.out⟩
    · have H4 := Lib.hid h4
      have H5 := Lib.hid h5
      clear h4 h5
      rcases h6 with ⟨h6, c⟩ | ⟨h6, h7, c⟩ | ⟨h6, h7, h8⟩
      · have H6 := Lib.hid h6
        rw [c]
        clear h6 c
        go_enter Try.func13, Try.ntmps13
        go_wp2_with fail
        refine (rsideK_is H1.out _).mono ?_; rintro e w1 ⟨rfl, rfl⟩
        go_wp2_with fail
        refine (rsideK_is H2.out _).mono ?_; rintro e w1 ⟨rfl, rfl⟩
        go_wp2_with fail
        refine (rareW_n H4.out EL.out _ _ _ HS.out HL.out).mono ?_; rintro e w1 ⟨rfl, rfl⟩
        go_wp2_with fail
        refine (rshiftB_is H5.out _).mono ?_; rintro e w1 ⟨rfl, rfl⟩
        go_wp2_with fail
        refine (rvalueB_is H6.out _).mono ?_; rintro e w1 ⟨rfl, rfl⟩
        go_wp2_with fail
        go_returns
        exact ⟨rfl, HB.out⟩
      · have H6 := Lib.hid h6
        have H7 := Lib.hid h7
        rw [c]
        clear h6 h7 c
        go_enter Try.func13, Try.ntmps13
        go_wp2_with fail
        refine (rsideK_is H1.out _).mono ?_; rintro e w1 ⟨rfl, rfl⟩
        go_wp2_with fail
        refine (rsideK_is H2.out _).mono ?_; rintro e w1 ⟨rfl, rfl⟩
        go_wp2_with fail
        refine (rareW_n H4.out EL.out _ _ _ HS.out HL.out).mono ?_; rintro e w1 ⟨rfl, rfl⟩
        go_wp2_with fail
        refine (rshiftB_is H5.out _).mono ?_; rintro e w1 ⟨rfl, rfl⟩
        go_wp2_with fail
        refine (rvalueB_is H6.out _).mono ?_; rintro e w1 ⟨rfl, rfl⟩
        go_wp2_with fail
        refine (rvalueB_is H7.out _).mono ?_; rintro e w1 ⟨rfl, rfl⟩
        go_wp2_with fail
        go_returns
        exact ⟨rfl, HB.out⟩
      · have H6 := Lib.hid h6
        have H7 := Lib.hid h7
        clear h6 h7
        obtain ⟨bb, ebb⟩ : ∃ bb, boundsB L 0 mx = bb := ⟨_, rfl⟩
        have H8 := Lib.hid ebb
        rw [ebb] at h8
        rcases h8 with ⟨rfl, c⟩ | ⟨rfl, c⟩
        all_goals
          rw [c]
          clear c ebb
          go_enter Try.func13, Try.ntmps13
          go_wp2_with fail
          refine (rsideK_is H1.out _).mono ?_; rintro e w1 ⟨rfl, rfl⟩
          go_wp2_with fail
          refine (rsideK_is H2.out _).mono ?_; rintro e w1 ⟨rfl, rfl⟩
          go_wp2_with fail
          refine (rareW_n H4.out EL.out _ _ _ HS.out HL.out).mono ?_; rintro e w1 ⟨rfl, rfl⟩
          go_wp2_with fail
          refine (rshiftB_is H5.out _).mono ?_; rintro e w1 ⟨rfl, rfl⟩
          go_wp2_with fail
          refine (rvalueB_is H6.out _).mono ?_; rintro e w1 ⟨rfl, rfl⟩
          go_wp2_with fail
          refine (rvalueB_is H7.out _).mono ?_; rintro e w1 ⟨rfl, rfl⟩
          go_wp2_with fail
          refine (rbounds_b H8.out EL.out _ _ _ HS.out HL.out).mono ?_; rintro e w1 ⟨x, y, rfl, hb⟩
          have HB1 := Lib.hid (bthen HB.out hb)
          clear hb
          go_wp2_with fail
          go_returns
          exact ⟨rfl, HB1.out⟩
open Go.ChangeShapes Go.WideShapes Go.ChangeAt Go.RowKit
set_option linter.unusedVariables false
set_option linter.unusedSimpArgs false

/-- a plane came back with no error, or the zero plane and an error: by the option; its pixels are the whole of a new block -/
def CTilePost (W H M : Int) (o : Option (List Int)) (c : Int) (w : World) (e : Ending) (w' : World) : Prop :=
  Below w.heap.size w w' ∧ match o with
    | some L => ∃ g cap, e = .returned (.tuple #[pv W H M g L.length cap, .int .i64 0]) ∧ PixAt w.heap.size w' g cap L
    | none => e = .returned (.tuple #[pz, .int .i64 c])
theorem tileO_none {W H M : Int} {P : List Int} {q f kw kh : Int} {K : List Int} {s out x0 y0 x1 y1 c : Int} (h : tileC W H M P q f kw kh K s out x0 y0 x1 y1 = c) (hc : ¬ c = 0) : tileO W H M P q f kw kh K s out x0 y0 x1 y1 = none := by
  unfold tileO; rw [h, if_neg hc]
/-- the arguments of a tile in four blocks; only new blocks have come -/
structure ArgS (W4 : World) (B : Nat) (W H M : Int) (sl : Value) (q f x0 y0 x1 y1 : Int) (w' : World) : Prop where
  below : Below W4.heap.size W4 w'
  p0 : w'.cell? ⟨B, 0, none⟩ = some (.int .i64 W)
  p1 : w'.cell? ⟨B, 1, none⟩ = some (.int .i64 H)
  p2 : w'.cell? ⟨B, 2, none⟩ = some (.int .i64 M)
  p3 : w'.cell? ⟨B, 3, none⟩ = some sl
  e0 : w'.cell? ⟨B + 1, 0, none⟩ = some (.int .i64 q)
  e1 : w'.cell? ⟨B + 1, 1, none⟩ = some (.int .i64 f)
  r0 : w'.cell? ⟨B + 1 + 1, 0, none⟩ = some (.int .i64 x0)
  r1 : w'.cell? ⟨B + 1 + 1, 1, none⟩ = some (.int .i64 y0)
  r2 : w'.cell? ⟨B + 1 + 1, 2, none⟩ = some (.int .i64 x1)
  r3 : w'.cell? ⟨B + 1 + 1, 3, none⟩ = some (.int .i64 y1)
  op : Open4 w' (B + 1 + 1 + 1)
theorem ArgS.more {W4 : World} {B : Nat} {W H M : Int} {sl : Value} {q f x0 y0 x1 y1 : Int} {w' w2 : World} (h : ArgS W4 B W H M sl q f x0 y0 x1 y1 w') (hb : Below w'.heap.size w' w2) : ArgS W4 B W H M sl q f x0 y0 x1 y1 w2 :=
  ⟨bthen h.below hb, bkeep hb h.p0, bkeep hb h.p1, bkeep hb h.p2, bkeep hb h.p3, bkeep hb h.e0, bkeep hb h.e1, bkeep hb h.r0, bkeep hb h.r1, bkeep hb h.r2, bkeep hb h.r3, h.op.below hb⟩
theorem args_start (w : World) (W H M : Int) (sl : Value) (q f x0 y0 x1 y1 : Int) (t0 t1 t2 t3 : TypeId) (v0 v1 v2 v3 : Value) {W4 : World} (e : (((w.alloc (.cells #[.int .i64 W, .int .i64 H, .int .i64 M, sl] t0)).alloc (.cells #[.int .i64 q, .int .i64 f] t1)).alloc (.cells #[.int .i64 x0, .int .i64 y0, .int .i64 x1, .int .i64 y1] t2)).alloc (.cells #[v0, v1, v2, v3] t3) = W4) :
    ArgS W4 w.heap.size W H M sl q f x0 y0 x1 y1 W4 ∧ Below w.heap.size w W4 ∧ W4.heap.size = w.heap.size + 1 + 1 + 1 + 1 := by
  subst e
  exact ⟨⟨bref _, by go_cell, by go_cell, by go_cell, by go_cell, by go_cell, by go_cell, by go_cell, by go_cell, by go_cell, by go_cell, (Open4.new _ _ _ _ _ _).at (by simp)⟩, balloc (balloc (balloc (balloc (bref w) _) _) _) _, by simp⟩
set_option maxHeartbeats 4000000 in
theorem rtile_1 (W H M : Int) (P : List Int) (a : Option Addr) (cap : Nat) (q f kw kh : Int) (K : List Int) (ka : Option Addr) (kl kc : Nat) (s out x0 y0 x1 y1 : Int) (w : World) (hs : SliceIs w a P) (hl : P.length ≤ 9223372036854775807) (hk : SliceIs w ka K) (ek : K.length = kl) (hkl : kl ≤ 9223372036854775807) (hv : planeB W H M P = false) :
    Calls Try.prog 21 #[.agg #[.int .i64 W, .int .i64 H, .int .i64 M, .slice a P.length cap], .agg #[.int .i64 q, .int .i64 f], .int .i64 kw, .int .i64 kh, .slice ka kl kc, .int .i64 s, .int .i64 out, .agg #[.int .i64 x0, .int .i64 y0, .int .i64 x1, .int .i64 y1]] w (CTilePost (x1 - x0) (y1 - y0) out (tileO W H M P q f kw kh K s out x0 y0 x1 y1) (tileC W H M P q f kw kh K s out x0 y0 x1 y1) w) := by
  have hc := Lib.hid (show tileC W H M P q f kw kh K s out x0 y0 x1 y1 = 1 from by unfold tileC; rw [if_pos (.inl hv)])
  have hO := Lib.hid (tileO_none hc.out (by decide))
  have hs' := Lib.hid hs
  have hk' := Lib.hid hk
  have hl' := Lib.hid hl
  have hkl' := Lib.hid hkl
  have ek' := Lib.hid ek
  have hv' := Lib.hid hv
  clear hv
  clear hs hk hl hkl ek
  go_enter Try.func21, Try.ntmps21
  go_wp2_with fail
  obtain ⟨W4, eW4⟩ : ∃ W4, (((w.alloc (.cells #[.int .i64 W, .int .i64 H, .int .i64 M, .slice a P.length cap] 35)).alloc (.cells #[.int .i64 q, .int .i64 f] 38)).alloc (.cells #[.int .i64 x0, .int .i64 y0, .int .i64 x1, .int .i64 y1] 33)).alloc (.cells #[.int .i64 0, .int .i64 0, .int .i64 0, .slice none 0 0] 35) = W4 := ⟨_, rfl⟩
  obtain ⟨hA, hB, hz⟩ := args_start w W H M (.slice a P.length cap) q f x0 y0 x1 y1 35 38 33 35 (.int .i64 0) (.int .i64 0) (.int .i64 0) (.slice none 0 0) eW4
  simp only [eW4]
  clear eW4
  have hsb := Lib.hid (is_below hs'.out hB)
  have hkb := Lib.hid (is_below hk'.out hB)
  have hB' := Lib.hid hB
  have hz' := Lib.hid hz
  clear hB hz
  refine (rpvalid_is hv'.out _ _ _ hsb.out hl'.out).mono ?_; rintro e w1 ⟨rfl, hb⟩
  replace hA := hA.more hb
  obtain ⟨⟨v0, o0, f0⟩, ⟨v1, o1, f1⟩, ⟨v2, o2, f2⟩, ⟨v3, o3, f3⟩⟩ := open_cells hA.op
  go_wp2_with fail
  rw [hO.out, hc.out]
  refine ret_plane2 Try.results21 rfl rfl rfl hA.op ⟨bput4 (bthen hB'.out hA.below) (by omega) _ _ _ _, rfl⟩
set_option maxHeartbeats 4000000 in
theorem rtile_2 (W H M : Int) (P : List Int) (a : Option Addr) (cap : Nat) (q f kw kh : Int) (K : List Int) (ka : Option Addr) (kl kc : Nat) (s out x0 y0 x1 y1 : Int) (w : World) (hs : SliceIs w a P) (hl : P.length ≤ 9223372036854775807) (hk : SliceIs w ka K) (ek : K.length = kl) (hkl : kl ≤ 9223372036854775807) (hv : planeB W H M P = true) (he : edgeB q f M = false) :
    Calls Try.prog 21 #[.agg #[.int .i64 W, .int .i64 H, .int .i64 M, .slice a P.length cap], .agg #[.int .i64 q, .int .i64 f], .int .i64 kw, .int .i64 kh, .slice ka kl kc, .int .i64 s, .int .i64 out, .agg #[.int .i64 x0, .int .i64 y0, .int .i64 x1, .int .i64 y1]] w (CTilePost (x1 - x0) (y1 - y0) out (tileO W H M P q f kw kh K s out x0 y0 x1 y1) (tileC W H M P q f kw kh K s out x0 y0 x1 y1) w) := by
  have hc := Lib.hid (show tileC W H M P q f kw kh K s out x0 y0 x1 y1 = 1 from by unfold tileC; rw [if_pos (.inr he)])
  have hO := Lib.hid (tileO_none hc.out (by decide))
  have hs' := Lib.hid hs
  have hk' := Lib.hid hk
  have hl' := Lib.hid hl
  have hkl' := Lib.hid hkl
  have ek' := Lib.hid ek
  have hv' := Lib.hid hv
  have he' := Lib.hid he
  clear hv he
  clear hs hk hl hkl ek
  go_enter Try.func21, Try.ntmps21
  go_wp2_with fail
  obtain ⟨W4, eW4⟩ : ∃ W4, (((w.alloc (.cells #[.int .i64 W, .int .i64 H, .int .i64 M, .slice a P.length cap] 35)).alloc (.cells #[.int .i64 q, .int .i64 f] 38)).alloc (.cells #[.int .i64 x0, .int .i64 y0, .int .i64 x1, .int .i64 y1] 33)).alloc (.cells #[.int .i64 0, .int .i64 0, .int .i64 0, .slice none 0 0] 35) = W4 := ⟨_, rfl⟩
  obtain ⟨hA, hB, hz⟩ := args_start w W H M (.slice a P.length cap) q f x0 y0 x1 y1 35 38 33 35 (.int .i64 0) (.int .i64 0) (.int .i64 0) (.slice none 0 0) eW4
  simp only [eW4]
  clear eW4
  have hsb := Lib.hid (is_below hs'.out hB)
  have hkb := Lib.hid (is_below hk'.out hB)
  have hB' := Lib.hid hB
  have hz' := Lib.hid hz
  clear hB hz
  refine (rpvalid_is hv'.out _ _ _ hsb.out hl'.out).mono ?_; rintro e w1 ⟨rfl, hb⟩
  replace hA := hA.more hb
  obtain ⟨hbl, p0, p1, p2, p3, e0, e1, r0, r1, r2, r3, hop⟩ := id hA
  clear hbl hop
  go_wp2_with fail
  refine (redge_is' _ he'.out).mono ?_; rintro e w2 ⟨rfl, hb2⟩
  clear p0 p1 p2 p3 e0 e1 r0 r1 r2 r3
  replace hA := hA.more hb2
  obtain ⟨⟨v0, o0, f0⟩, ⟨v1, o1, f1⟩, ⟨v2, o2, f2⟩, ⟨v3, o3, f3⟩⟩ := open_cells hA.op
  go_wp2_with fail
  rw [hO.out, hc.out]
  refine ret_plane2 Try.results21 rfl rfl rfl hA.op ⟨bput4 (bthen hB'.out hA.below) (by omega) _ _ _ _, rfl⟩
open Go.ChangeShapes Go.WideShapes Go.ChangeAt Go.RowKit
set_option linter.unusedVariables false
set_option linter.unusedSimpArgs false

theorem rfull_is {a b c d : Int} {v : Bool} (h : fullB a b c d = v) (w : World) : Calls Try.prog 45 #[.agg #[.int .i64 a, .int .i64 b, .int .i64 c, .int .i64 d]] w (TestPost v w) := h ▸ full_any a b c d w
set_option maxHeartbeats 4000000 in
theorem rtile_3 (W H M : Int) (P : List Int) (a : Option Addr) (cap : Nat) (q f kw kh : Int) (K : List Int) (ka : Option Addr) (kl kc : Nat) (s out x0 y0 x1 y1 : Int) (w : World) (hs : SliceIs w a P) (hl : P.length ≤ 9223372036854775807) (hk : SliceIs w ka K) (ek : K.length = kl) (hkl : kl ≤ 9223372036854775807) (hv : planeB W H M P = true) (he : edgeB q f M = true) (c : Int) (hC0 : checkC M kw kh K s out = c) (hne : ¬ c = 0) :
    Calls Try.prog 21 #[.agg #[.int .i64 W, .int .i64 H, .int .i64 M, .slice a P.length cap], .agg #[.int .i64 q, .int .i64 f], .int .i64 kw, .int .i64 kh, .slice ka kl kc, .int .i64 s, .int .i64 out, .agg #[.int .i64 x0, .int .i64 y0, .int .i64 x1, .int .i64 y1]] w (CTilePost (x1 - x0) (y1 - y0) out (tileO W H M P q f kw kh K s out x0 y0 x1 y1) (tileC W H M P q f kw kh K s out x0 y0 x1 y1) w) := by
  have hc := Lib.hid (show tileC W H M P q f kw kh K s out x0 y0 x1 y1 = c from by unfold tileC; rw [if_neg (by simp [hv, he]), hC0, if_pos hne])
  have hO := Lib.hid (tileO_none hc.out hne)
  have hs' := Lib.hid hs
  have hk' := Lib.hid hk
  have hl' := Lib.hid hl
  have hkl' := Lib.hid hkl
  have ek' := Lib.hid ek
  have hv' := Lib.hid hv
  have he' := Lib.hid he
  clear hv he
  have hC := Lib.hid hC0
  have hcb : (c == 0) = false := by simpa using hne
  clear hC0
  clear hs hk hl hkl ek
  go_enter Try.func21, Try.ntmps21
  go_wp2_with fail
  obtain ⟨W4, eW4⟩ : ∃ W4, (((w.alloc (.cells #[.int .i64 W, .int .i64 H, .int .i64 M, .slice a P.length cap] 35)).alloc (.cells #[.int .i64 q, .int .i64 f] 38)).alloc (.cells #[.int .i64 x0, .int .i64 y0, .int .i64 x1, .int .i64 y1] 33)).alloc (.cells #[.int .i64 0, .int .i64 0, .int .i64 0, .slice none 0 0] 35) = W4 := ⟨_, rfl⟩
  obtain ⟨hA, hB, hz⟩ := args_start w W H M (.slice a P.length cap) q f x0 y0 x1 y1 35 38 33 35 (.int .i64 0) (.int .i64 0) (.int .i64 0) (.slice none 0 0) eW4
  simp only [eW4]
  clear eW4
  have hsb := Lib.hid (is_below hs'.out hB)
  have hkb := Lib.hid (is_below hk'.out hB)
  have hB' := Lib.hid hB
  have hz' := Lib.hid hz
  clear hB hz
  refine (rpvalid_is hv'.out _ _ _ hsb.out hl'.out).mono ?_; rintro e w1 ⟨rfl, hb⟩
  replace hA := hA.more hb
  obtain ⟨hbl, p0, p1, p2, p3, e0, e1, r0, r1, r2, r3, hop⟩ := id hA
  clear hbl hop
  go_wp2_with fail
  refine (redge_is' _ he'.out).mono ?_; rintro e w2 ⟨rfl, hb2⟩
  clear p0 p1 p2 p3 e0 e1 r0 r1 r2 r3
  replace hA := hA.more hb2
  obtain ⟨hbl, p0, p1, p2, p3, e0, e1, r0, r1, r2, r3, hop⟩ := id hA
  clear hbl hop
  go_wp2_with fail
  refine (rcheck_n M kw kh K s out kl ek'.out _ _ _ (is_below hkb.out hA.below) hkl'.out).mono ?_; rintro e w3 ⟨rfl, hb3⟩
  rw [hC.out]
  clear p0 p1 p2 p3 e0 e1 r0 r1 r2 r3
  replace hA := hA.more hb3
  obtain ⟨⟨v0, o0, f0⟩, ⟨v1, o1, f1⟩, ⟨v2, o2, f2⟩, ⟨v3, o3, f3⟩⟩ := open_cells hA.op
  go_wp2_with fail
  rw [hO.out, hc.out]
  refine ret_plane2 Try.results21 rfl rfl rfl hA.op ⟨bput4 (bthen hB'.out hA.below) (by omega) _ _ _ _, rfl⟩
set_option maxHeartbeats 4000000 in
theorem rtile_4 (W H M : Int) (P : List Int) (a : Option Addr) (cap : Nat) (q f kw kh : Int) (K : List Int) (ka : Option Addr) (kl kc : Nat) (s out x0 y0 x1 y1 : Int) (w : World) (hs : SliceIs w a P) (hl : P.length ≤ 9223372036854775807) (hk : SliceIs w ka K) (ek : K.length = kl) (hkl : kl ≤ 9223372036854775807) (hv : planeB W H M P = true) (he : edgeB q f M = true) (hC0 : checkC M kw kh K s out = 0) (hf0 : fullB x0 y0 x1 y1 = false) :
    Calls Try.prog 21 #[.agg #[.int .i64 W, .int .i64 H, .int .i64 M, .slice a P.length cap], .agg #[.int .i64 q, .int .i64 f], .int .i64 kw, .int .i64 kh, .slice ka kl kc, .int .i64 s, .int .i64 out, .agg #[.int .i64 x0, .int .i64 y0, .int .i64 x1, .int .i64 y1]] w (CTilePost (x1 - x0) (y1 - y0) out (tileO W H M P q f kw kh K s out x0 y0 x1 y1) (tileC W H M P q f kw kh K s out x0 y0 x1 y1) w) := by
  have hc := Lib.hid (show tileC W H M P q f kw kh K s out x0 y0 x1 y1 = 8 from by unfold tileC; rw [if_neg (by simp [hv, he]), hC0, if_neg (by simp), if_pos (.inl hf0)])
  have hO := Lib.hid (tileO_none hc.out (by decide))
  have hs' := Lib.hid hs
  have hk' := Lib.hid hk
  have hl' := Lib.hid hl
  have hkl' := Lib.hid hkl
  have ek' := Lib.hid ek
  have hv' := Lib.hid hv
  have he' := Lib.hid he
  clear hv he
  have hC := Lib.hid hC0
  have hF := Lib.hid hf0
  clear hC0 hf0
  clear hs hk hl hkl ek
  go_enter Try.func21, Try.ntmps21
  go_wp2_with fail
  obtain ⟨W4, eW4⟩ : ∃ W4, (((w.alloc (.cells #[.int .i64 W, .int .i64 H, .int .i64 M, .slice a P.length cap] 35)).alloc (.cells #[.int .i64 q, .int .i64 f] 38)).alloc (.cells #[.int .i64 x0, .int .i64 y0, .int .i64 x1, .int .i64 y1] 33)).alloc (.cells #[.int .i64 0, .int .i64 0, .int .i64 0, .slice none 0 0] 35) = W4 := ⟨_, rfl⟩
  obtain ⟨hA, hB, hz⟩ := args_start w W H M (.slice a P.length cap) q f x0 y0 x1 y1 35 38 33 35 (.int .i64 0) (.int .i64 0) (.int .i64 0) (.slice none 0 0) eW4
  simp only [eW4]
  clear eW4
  have hsb := Lib.hid (is_below hs'.out hB)
  have hkb := Lib.hid (is_below hk'.out hB)
  have hB' := Lib.hid hB
  have hz' := Lib.hid hz
  clear hB hz
  refine (rpvalid_is hv'.out _ _ _ hsb.out hl'.out).mono ?_; rintro e w1 ⟨rfl, hb⟩
  replace hA := hA.more hb
  obtain ⟨hbl, p0, p1, p2, p3, e0, e1, r0, r1, r2, r3, hop⟩ := id hA
  clear hbl hop
  go_wp2_with fail
  refine (redge_is' _ he'.out).mono ?_; rintro e w2 ⟨rfl, hb2⟩
  clear p0 p1 p2 p3 e0 e1 r0 r1 r2 r3
  replace hA := hA.more hb2
  obtain ⟨hbl, p0, p1, p2, p3, e0, e1, r0, r1, r2, r3, hop⟩ := id hA
  clear hbl hop
  go_wp2_with fail
  refine (rcheck_n M kw kh K s out kl ek'.out _ _ _ (is_below hkb.out hA.below) hkl'.out).mono ?_; rintro e w3 ⟨rfl, hb3⟩
  rw [hC.out]
  clear p0 p1 p2 p3 e0 e1 r0 r1 r2 r3
  replace hA := hA.more hb3
  obtain ⟨hbl, p0, p1, p2, p3, e0, e1, r0, r1, r2, r3, hop⟩ := id hA
  clear hbl hop
  go_upto_region 6 with fail
  clear p0 p1 p2 p3 e0 e1 r0 r1 r2 r3
  haveI : Nonempty (In (ArgS W4 w.heap.size W H M (.slice a P.length cap) q f x0 y0 x1 y1)) := ⟨⟨_, hA⟩⟩
  have g0 : ∀ s : In (ArgS W4 w.heap.size W H M (.slice a P.length cap) q f x0 y0 x1 y1), s.w.cell? ⟨w.heap.size, 0, none⟩ = some (.int .i64 W) := fun s => s.h.p0
  have g1 : ∀ s : In (ArgS W4 w.heap.size W H M (.slice a P.length cap) q f x0 y0 x1 y1), s.w.cell? ⟨w.heap.size, 1, none⟩ = some (.int .i64 H) := fun s => s.h.p1
  have g2 : ∀ s : In (ArgS W4 w.heap.size W H M (.slice a P.length cap) q f x0 y0 x1 y1), s.w.cell? ⟨w.heap.size, 2, none⟩ = some (.int .i64 M) := fun s => s.h.p2
  have g3 : ∀ s : In (ArgS W4 w.heap.size W H M (.slice a P.length cap) q f x0 y0 x1 y1), s.w.cell? ⟨w.heap.size, 3, none⟩ = some (.slice a P.length cap) := fun s => s.h.p3
  have g4 : ∀ s : In (ArgS W4 w.heap.size W H M (.slice a P.length cap) q f x0 y0 x1 y1), s.w.cell? ⟨w.heap.size + 1 + 1, 0, none⟩ = some (.int .i64 x0) := fun s => s.h.r0
  have g5 : ∀ s : In (ArgS W4 w.heap.size W H M (.slice a P.length cap) q f x0 y0 x1 y1), s.w.cell? ⟨w.heap.size + 1 + 1, 1, none⟩ = some (.int .i64 y0) := fun s => s.h.r1
  have g6 : ∀ s : In (ArgS W4 w.heap.size W H M (.slice a P.length cap) q f x0 y0 x1 y1), s.w.cell? ⟨w.heap.size + 1 + 1, 2, none⟩ = some (.int .i64 x1) := fun s => s.h.r2
  have g7 : ∀ s : In (ArgS W4 w.heap.size W H M (.slice a P.length cap) q f x0 y0 x1 y1), s.w.cell? ⟨w.heap.size + 1 + 1, 3, none⟩ = some (.int .i64 y1) := fun s => s.h.r3
  refine wp_region_in (S := ArgS W4 w.heap.size W H M (.slice a P.length cap) q f x0 y0 x1 y1) (by kernel_rfl) (by kernel_rfl) (hA.more (bdrew1 (bref _))) ?_
  repeat (go_big_quiet_step (first | (go_at_call 45; exact in_below _ (fun hb h => h.more hb) (rfull_is hF.out _))))
  refine wpQuiet_nil ?_
  rintro _ ⟨s9, rfl⟩
  have hA := s9.h
  clear g0 g1 g2 g3 g4 g5 g6 g7
  obtain ⟨⟨v0, o0, f0⟩, ⟨v1, o1, f1⟩, ⟨v2, o2, f2⟩, ⟨v3, o3, f3⟩⟩ := open_cells hA.op
  go_wp2_with fail
  rw [hO.out, hc.out]
  refine ret_plane2 Try.results21 rfl rfl rfl hA.op ⟨bput4 (bthen hB'.out hA.below) (by omega) _ _ _ _, rfl⟩
set_option maxHeartbeats 4000000 in
theorem rtile_5 (W H M : Int) (P : List Int) (a : Option Addr) (cap : Nat) (q f kw kh : Int) (K : List Int) (ka : Option Addr) (kl kc : Nat) (s out x0 y0 x1 y1 : Int) (w : World) (hs : SliceIs w a P) (hl : P.length ≤ 9223372036854775807) (hk : SliceIs w ka K) (ek : K.length = kl) (hkl : kl ≤ 9223372036854775807) (hv : planeB W H M P = true) (he : edgeB q f M = true) (hC0 : checkC M kw kh K s out = 0) (hf0 : fullB x0 y0 x1 y1 = true) (hi0 : insideB x0 y0 x1 y1 0 0 W H = false) :
    Calls Try.prog 21 #[.agg #[.int .i64 W, .int .i64 H, .int .i64 M, .slice a P.length cap], .agg #[.int .i64 q, .int .i64 f], .int .i64 kw, .int .i64 kh, .slice ka kl kc, .int .i64 s, .int .i64 out, .agg #[.int .i64 x0, .int .i64 y0, .int .i64 x1, .int .i64 y1]] w (CTilePost (x1 - x0) (y1 - y0) out (tileO W H M P q f kw kh K s out x0 y0 x1 y1) (tileC W H M P q f kw kh K s out x0 y0 x1 y1) w) := by
  have hc := Lib.hid (show tileC W H M P q f kw kh K s out x0 y0 x1 y1 = 8 from by unfold tileC; rw [if_neg (by simp [hv, he]), hC0, if_neg (by simp), if_pos (.inr hi0)])
  have hO := Lib.hid (tileO_none hc.out (by decide))
  have hs' := Lib.hid hs
  have hk' := Lib.hid hk
  have hl' := Lib.hid hl
  have hkl' := Lib.hid hkl
  have ek' := Lib.hid ek
  have hv' := Lib.hid hv
  have he' := Lib.hid he
  clear hv he
  have hC := Lib.hid hC0
  have hF := Lib.hid hf0
  have hI := Lib.hid hi0
  clear hC0 hf0 hi0
  clear hs hk hl hkl ek
  go_enter Try.func21, Try.ntmps21
  go_wp2_with fail
  obtain ⟨W4, eW4⟩ : ∃ W4, (((w.alloc (.cells #[.int .i64 W, .int .i64 H, .int .i64 M, .slice a P.length cap] 35)).alloc (.cells #[.int .i64 q, .int .i64 f] 38)).alloc (.cells #[.int .i64 x0, .int .i64 y0, .int .i64 x1, .int .i64 y1] 33)).alloc (.cells #[.int .i64 0, .int .i64 0, .int .i64 0, .slice none 0 0] 35) = W4 := ⟨_, rfl⟩
  obtain ⟨hA, hB, hz⟩ := args_start w W H M (.slice a P.length cap) q f x0 y0 x1 y1 35 38 33 35 (.int .i64 0) (.int .i64 0) (.int .i64 0) (.slice none 0 0) eW4
  simp only [eW4]
  clear eW4
  have hsb := Lib.hid (is_below hs'.out hB)
  have hkb := Lib.hid (is_below hk'.out hB)
  have hB' := Lib.hid hB
  have hz' := Lib.hid hz
  clear hB hz
  refine (rpvalid_is hv'.out _ _ _ hsb.out hl'.out).mono ?_; rintro e w1 ⟨rfl, hb⟩
  replace hA := hA.more hb
  obtain ⟨hbl, p0, p1, p2, p3, e0, e1, r0, r1, r2, r3, hop⟩ := id hA
  clear hbl hop
  go_wp2_with fail
  refine (redge_is' _ he'.out).mono ?_; rintro e w2 ⟨rfl, hb2⟩
  clear p0 p1 p2 p3 e0 e1 r0 r1 r2 r3
  replace hA := hA.more hb2
  obtain ⟨hbl, p0, p1, p2, p3, e0, e1, r0, r1, r2, r3, hop⟩ := id hA
  clear hbl hop
  go_wp2_with fail
  refine (rcheck_n M kw kh K s out kl ek'.out _ _ _ (is_below hkb.out hA.below) hkl'.out).mono ?_; rintro e w3 ⟨rfl, hb3⟩
  rw [hC.out]
  clear p0 p1 p2 p3 e0 e1 r0 r1 r2 r3
  replace hA := hA.more hb3
  obtain ⟨hbl, p0, p1, p2, p3, e0, e1, r0, r1, r2, r3, hop⟩ := id hA
  clear hbl hop
  go_upto_region 6 with fail
  clear p0 p1 p2 p3 e0 e1 r0 r1 r2 r3
  haveI : Nonempty (In (ArgS W4 w.heap.size W H M (.slice a P.length cap) q f x0 y0 x1 y1)) := ⟨⟨_, hA⟩⟩
  have g0 : ∀ s : In (ArgS W4 w.heap.size W H M (.slice a P.length cap) q f x0 y0 x1 y1), s.w.cell? ⟨w.heap.size, 0, none⟩ = some (.int .i64 W) := fun s => s.h.p0
  have g1 : ∀ s : In (ArgS W4 w.heap.size W H M (.slice a P.length cap) q f x0 y0 x1 y1), s.w.cell? ⟨w.heap.size, 1, none⟩ = some (.int .i64 H) := fun s => s.h.p1
  have g2 : ∀ s : In (ArgS W4 w.heap.size W H M (.slice a P.length cap) q f x0 y0 x1 y1), s.w.cell? ⟨w.heap.size, 2, none⟩ = some (.int .i64 M) := fun s => s.h.p2
  have g3 : ∀ s : In (ArgS W4 w.heap.size W H M (.slice a P.length cap) q f x0 y0 x1 y1), s.w.cell? ⟨w.heap.size, 3, none⟩ = some (.slice a P.length cap) := fun s => s.h.p3
  have g4 : ∀ s : In (ArgS W4 w.heap.size W H M (.slice a P.length cap) q f x0 y0 x1 y1), s.w.cell? ⟨w.heap.size + 1 + 1, 0, none⟩ = some (.int .i64 x0) := fun s => s.h.r0
  have g5 : ∀ s : In (ArgS W4 w.heap.size W H M (.slice a P.length cap) q f x0 y0 x1 y1), s.w.cell? ⟨w.heap.size + 1 + 1, 1, none⟩ = some (.int .i64 y0) := fun s => s.h.r1
  have g6 : ∀ s : In (ArgS W4 w.heap.size W H M (.slice a P.length cap) q f x0 y0 x1 y1), s.w.cell? ⟨w.heap.size + 1 + 1, 2, none⟩ = some (.int .i64 x1) := fun s => s.h.r2
  have g7 : ∀ s : In (ArgS W4 w.heap.size W H M (.slice a P.length cap) q f x0 y0 x1 y1), s.w.cell? ⟨w.heap.size + 1 + 1, 3, none⟩ = some (.int .i64 y1) := fun s => s.h.r3
  refine wp_region_in (S := ArgS W4 w.heap.size W H M (.slice a P.length cap) q f x0 y0 x1 y1) (by kernel_rfl) (by kernel_rfl) (hA.more (bdrew1 (bref _))) ?_
  repeat (go_big_quiet_step (first | (go_at_call 45; exact in_below _ (fun hb h => h.more hb) (rfull_is hF.out _)) | (go_at_call 47; exact in_below _ (fun hb h => h.more hb) (rcover_any _ _ _ _ _)) | (go_at_call 46; exact in_below _ (fun hb h => h.more hb) (rinside_is hI.out _))))
  refine wpQuiet_nil ?_
  rintro _ ⟨s9, rfl⟩
  have hA := s9.h
  clear g0 g1 g2 g3 g4 g5 g6 g7
  obtain ⟨⟨v0, o0, f0⟩, ⟨v1, o1, f1⟩, ⟨v2, o2, f2⟩, ⟨v3, o3, f3⟩⟩ := open_cells hA.op
  go_wp2_with fail
  rw [hO.out, hc.out]
  refine ret_plane2 Try.results21 rfl rfl rfl hA.op ⟨bput4 (bthen hB'.out hA.below) (by omega) _ _ _ _, rfl⟩
end Go.Proofs.Ytibmoibhbgbfoaa
