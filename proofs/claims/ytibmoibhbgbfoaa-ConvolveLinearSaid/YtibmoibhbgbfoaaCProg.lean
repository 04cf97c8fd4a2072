/- The developers' Tile of package convolve as a contract. -/
import Derived.Test.YtibmoibhbgbfoaaCSum
import Derived.Deep.DeepCutAuto
import Derived.Deep.DeepMust
namespace Go.Proofs.Ytibmoibhbgbfoaa
open Go.ChangeShapes Go.WideShapes Go.ChangeAt Go.RowKit
set_option linter.unusedVariables false
set_option linter.unusedSimpArgs false

theorem cshift_is {a s n : Int} (h : shiftN a s = n) (w : World) : Calls Try.prog 42 #[.int .i64 a, .int .i64 s] w fun e w' => e = .returned (.int .i64 n) ∧ w = w' := by
  subst h; exact fshift_any a s w
theorem cclamp_is {v m n : Int} (h : clampN v m = n) (w : World) : Calls Try.prog 41 #[.int .i64 v, .int .i64 m] w fun e w' => e = .returned (.int .i64 n) ∧ w = w' := by
  rw [← h]
  clear h
  go_enter Try.func41, Try.ntmps41
  go_wp2_with fail
  all_goals
    go_ret
    refine ⟨ret_int ?_, rfl⟩
    unfold clampN
    (try simp at *)
    (repeat' split) <;> omega
theorem empty_is {a b c d : Int} {v : Bool} (h : emptyB a b c d = v) (w : World) : Calls Try.prog 37 #[.agg #[.int .i64 a, .int .i64 b, .int .i64 c, .int .i64 d]] w (TestPost v w) := h ▸ empty_any a b c d w
theorem inside_is {a b c d e f g h : Int} {v : Bool} (hh : insideB a b c d e f g h = v) (w : World) : Calls Try.prog 38 #[.agg #[.int .i64 a, .int .i64 b, .int .i64 c, .int .i64 d], .agg #[.int .i64 e, .int .i64 f, .int .i64 g, .int .i64 h]] w (TestPost v w) := hh ▸ inside_any a b c d e f g h w
theorem cnew_is {cw ch : Nat} {M : Int} (h : sizeB cw ch M = true) (w : World) : Calls Try.prog 39 #[.int .i64 cw, .int .i64 ch, .int .i64 M] w
    fun e w' => ∃ g cap, e = .returned (.tuple #[pv cw ch M g (cw * ch) cap, .bool true]) ∧ PixAt w.heap.size w' g cap (List.replicate (cw * ch) 0) ∧ Below w.heap.size w w' := by
  have := pnew_any cw ch M w
  unfold newO PlanePost at this
  rw [if_pos h] at this
  have e : ((cw : Int) * (ch : Int)).toNat = cw * ch := by exact_mod_cast rfl
  rw [e] at this
  refine this.mono fun e w' ⟨hb, g, cap, he, hp⟩ => ⟨g, cap, ?_, hp, hb⟩
  simpa using he
/-- where the kernel lies, each operation behind Go's wrap -/
theorem place_wraps {kw kh cw ch j k : Nat} {x0 y0 : Int} (k1 : 1 ≤ kw ∧ kw ≤ 9) (k2 : 1 ≤ kh ∧ kh ≤ 9) (h1 : x0 + cw ≤ 128) (h2 : y0 + ch ≤ 128) (h3 : 0 ≤ x0) (h4 : 0 ≤ y0) (hj : j < cw) (hk : k < ch) :
    ∃ xx yy hw hh left top : Int, wrap64 (x0 + (j : Int)) = xx ∧ (kw : Int).tdiv 2 = hw ∧ wrap64 hw = hw ∧ wrap64 (xx - hw) = left ∧ wrap64 (y0 + (k : Int)) = yy ∧ (kh : Int).tdiv 2 = hh ∧ wrap64 hh = hh ∧ wrap64 (yy - hh) = top ∧
      x0 + (j : Int) = xx ∧ y0 + (k : Int) = yy ∧ (0 ≤ xx ∧ xx ≤ 128) ∧ (0 ≤ yy ∧ yy ≤ 128) ∧ xx - (kw : Int) / 2 = left ∧ yy - (kh : Int) / 2 = top := by
  have e3 : (kw : Int).tdiv 2 = (kw : Int) / 2 := Int.tdiv_eq_ediv_of_nonneg (by omega)
  have e4 : (kh : Int).tdiv 2 = (kh : Int) / 2 := Int.tdiv_eq_ediv_of_nonneg (by omega)
  refine ⟨_, _, _, _, _, _, ?_, e3, ?_, ?_, ?_, e4, ?_, ?_, rfl, rfl, by omega, by omega, rfl, rfl⟩
  all_goals (unfold wrap64; omega)
set_option maxHeartbeats 4000000 in
theorem dtile_1 (W H M : Int) (P : List Int) (a : Option Addr) (cap : Nat) (q f kw kh : Int) (K : List Int) (ka : Option Addr) (kl kc : Nat) (s out x0 y0 x1 y1 : Int) (w : World) (hs : SliceIs w a P) (hl : P.length ≤ 9223372036854775807) (hk : SliceIs w ka K) (ek : K.length = kl) (hkl : kl ≤ 9223372036854775807) (hv : planeB W H M P = false) :
    Calls Try.prog 20 #[.agg #[.int .i64 W, .int .i64 H, .int .i64 M, .slice a P.length cap], .agg #[.int .i64 q, .int .i64 f], .int .i64 kw, .int .i64 kh, .slice ka kl kc, .int .i64 s, .int .i64 out, .agg #[.int .i64 x0, .int .i64 y0, .int .i64 x1, .int .i64 y1]] w (CTilePost (x1 - x0) (y1 - y0) out (tileO W H M P q f kw kh K s out x0 y0 x1 y1) (tileC W H M P q f kw kh K s out x0 y0 x1 y1) w) := by
  have hc := Lib.hid (show tileC W H M P q f kw kh K s out x0 y0 x1 y1 = 1 from by unfold tileC; rw [if_pos (.inl hv)])
  have hO := Lib.hid (tileO_none hc.out (by decide))
  have hs' := Lib.hid hs
  have hk' := Lib.hid hk
  have hl' := Lib.hid hl
  have hkl' := Lib.hid hkl
  have ek' := Lib.hid ek
  have hv' := Lib.hid hv
  clear hv
  clear hs hk hl hkl ek
  go_enter Try.func20, Try.ntmps20
  go_wp2_with fail
  obtain ⟨W4, eW4⟩ : ∃ W4, (((w.alloc (.cells #[.int .i64 W, .int .i64 H, .int .i64 M, .slice a P.length cap] 35)).alloc (.cells #[.int .i64 q, .int .i64 f] 38)).alloc (.cells #[.int .i64 x0, .int .i64 y0, .int .i64 x1, .int .i64 y1] 33)).alloc (.cells #[.int .i64 0, .int .i64 0, .int .i64 0, .slice none 0 0] 35) = W4 := ⟨_, rfl⟩
  obtain ⟨hA, hB, hz⟩ := args_start w W H M (.slice a P.length cap) q f x0 y0 x1 y1 35 38 33 35 (.int .i64 0) (.int .i64 0) (.int .i64 0) (.slice none 0 0) eW4
  simp only [eW4]
  clear eW4
  have hsb := Lib.hid (is_below hs'.out hB)
  have hkb := Lib.hid (is_below hk'.out hB)
  have hB' := Lib.hid hB
  have hz' := Lib.hid hz
  clear hB hz
  refine (pvalid_is hv'.out _ _ _ hsb.out hl'.out).mono ?_; rintro e w1 ⟨rfl, hb⟩
  replace hA := hA.more hb
  obtain ⟨⟨v0, o0, f0⟩, ⟨v1, o1, f1⟩, ⟨v2, o2, f2⟩, ⟨v3, o3, f3⟩⟩ := open_cells hA.op
  go_wp2_with fail
  rw [hO.out, hc.out]
  refine ret_plane2 Try.results20 rfl rfl rfl hA.op ⟨bput4 (bthen hB'.out hA.below) (by omega) _ _ _ _, rfl⟩
set_option maxHeartbeats 4000000 in
theorem dtile_2 (W H M : Int) (P : List Int) (a : Option Addr) (cap : Nat) (q f kw kh : Int) (K : List Int) (ka : Option Addr) (kl kc : Nat) (s out x0 y0 x1 y1 : Int) (w : World) (hs : SliceIs w a P) (hl : P.length ≤ 9223372036854775807) (hk : SliceIs w ka K) (ek : K.length = kl) (hkl : kl ≤ 9223372036854775807) (hv : planeB W H M P = true) (he : edgeB q f M = false) :
    Calls Try.prog 20 #[.agg #[.int .i64 W, .int .i64 H, .int .i64 M, .slice a P.length cap], .agg #[.int .i64 q, .int .i64 f], .int .i64 kw, .int .i64 kh, .slice ka kl kc, .int .i64 s, .int .i64 out, .agg #[.int .i64 x0, .int .i64 y0, .int .i64 x1, .int .i64 y1]] w (CTilePost (x1 - x0) (y1 - y0) out (tileO W H M P q f kw kh K s out x0 y0 x1 y1) (tileC W H M P q f kw kh K s out x0 y0 x1 y1) w) := by
  have hc := Lib.hid (show tileC W H M P q f kw kh K s out x0 y0 x1 y1 = 1 from by unfold tileC; rw [if_pos (.inr he)])
  have hO := Lib.hid (tileO_none hc.out (by decide))
  have hs' := Lib.hid hs
  have hk' := Lib.hid hk
  have hl' := Lib.hid hl
  have hkl' := Lib.hid hkl
  have ek' := Lib.hid ek
  have hv' := Lib.hid hv
  have he' := Lib.hid he
  clear hv he
  clear hs hk hl hkl ek
  go_enter Try.func20, Try.ntmps20
  go_wp2_with fail
  obtain ⟨W4, eW4⟩ : ∃ W4, (((w.alloc (.cells #[.int .i64 W, .int .i64 H, .int .i64 M, .slice a P.length cap] 35)).alloc (.cells #[.int .i64 q, .int .i64 f] 38)).alloc (.cells #[.int .i64 x0, .int .i64 y0, .int .i64 x1, .int .i64 y1] 33)).alloc (.cells #[.int .i64 0, .int .i64 0, .int .i64 0, .slice none 0 0] 35) = W4 := ⟨_, rfl⟩
  obtain ⟨hA, hB, hz⟩ := args_start w W H M (.slice a P.length cap) q f x0 y0 x1 y1 35 38 33 35 (.int .i64 0) (.int .i64 0) (.int .i64 0) (.slice none 0 0) eW4
  simp only [eW4]
  clear eW4
  have hsb := Lib.hid (is_below hs'.out hB)
  have hkb := Lib.hid (is_below hk'.out hB)
  have hB' := Lib.hid hB
  have hz' := Lib.hid hz
  clear hB hz
  refine (pvalid_is hv'.out _ _ _ hsb.out hl'.out).mono ?_; rintro e w1 ⟨rfl, hb⟩
  replace hA := hA.more hb
  obtain ⟨hbl, p0, p1, p2, p3, e0, e1, r0, r1, r2, r3, hop⟩ := id hA
  clear hbl hop
  go_wp2_with fail
  refine (edge_is' _ he'.out).mono ?_; rintro e w2 ⟨rfl, hb2⟩
  clear p0 p1 p2 p3 e0 e1 r0 r1 r2 r3
  replace hA := hA.more hb2
  obtain ⟨⟨v0, o0, f0⟩, ⟨v1, o1, f1⟩, ⟨v2, o2, f2⟩, ⟨v3, o3, f3⟩⟩ := open_cells hA.op
  go_wp2_with fail
  rw [hO.out, hc.out]
  refine ret_plane2 Try.results20 rfl rfl rfl hA.op ⟨bput4 (bthen hB'.out hA.below) (by omega) _ _ _ _, rfl⟩
set_option maxHeartbeats 4000000 in
theorem dtile_3 (W H M : Int) (P : List Int) (a : Option Addr) (cap : Nat) (q f kw kh : Int) (K : List Int) (ka : Option Addr) (kl kc : Nat) (s out x0 y0 x1 y1 : Int) (w : World) (hs : SliceIs w a P) (hl : P.length ≤ 9223372036854775807) (hk : SliceIs w ka K) (ek : K.length = kl) (hkl : kl ≤ 9223372036854775807) (hv : planeB W H M P = true) (he : edgeB q f M = true) (c : Int) (hC0 : checkC M kw kh K s out = c) (hne : ¬ c = 0) :
    Calls Try.prog 20 #[.agg #[.int .i64 W, .int .i64 H, .int .i64 M, .slice a P.length cap], .agg #[.int .i64 q, .int .i64 f], .int .i64 kw, .int .i64 kh, .slice ka kl kc, .int .i64 s, .int .i64 out, .agg #[.int .i64 x0, .int .i64 y0, .int .i64 x1, .int .i64 y1]] w (CTilePost (x1 - x0) (y1 - y0) out (tileO W H M P q f kw kh K s out x0 y0 x1 y1) (tileC W H M P q f kw kh K s out x0 y0 x1 y1) w) := by
  have hc := Lib.hid (show tileC W H M P q f kw kh K s out x0 y0 x1 y1 = c from by unfold tileC; rw [if_neg (by simp [hv, he]), hC0, if_pos hne])
  have hO := Lib.hid (tileO_none hc.out hne)
  have hs' := Lib.hid hs
  have hk' := Lib.hid hk
  have hl' := Lib.hid hl
  have hkl' := Lib.hid hkl
  have ek' := Lib.hid ek
  have hv' := Lib.hid hv
  have he' := Lib.hid he
  clear hv he
  have hC := Lib.hid hC0
  have hcb : (c == 0) = false := by simpa using hne
  clear hC0
  clear hs hk hl hkl ek
  go_enter Try.func20, Try.ntmps20
  go_wp2_with fail
  obtain ⟨W4, eW4⟩ : ∃ W4, (((w.alloc (.cells #[.int .i64 W, .int .i64 H, .int .i64 M, .slice a P.length cap] 35)).alloc (.cells #[.int .i64 q, .int .i64 f] 38)).alloc (.cells #[.int .i64 x0, .int .i64 y0, .int .i64 x1, .int .i64 y1] 33)).alloc (.cells #[.int .i64 0, .int .i64 0, .int .i64 0, .slice none 0 0] 35) = W4 := ⟨_, rfl⟩
  obtain ⟨hA, hB, hz⟩ := args_start w W H M (.slice a P.length cap) q f x0 y0 x1 y1 35 38 33 35 (.int .i64 0) (.int .i64 0) (.int .i64 0) (.slice none 0 0) eW4
  simp only [eW4]
  clear eW4
  have hsb := Lib.hid (is_below hs'.out hB)
  have hkb := Lib.hid (is_below hk'.out hB)
  have hB' := Lib.hid hB
  have hz' := Lib.hid hz
  clear hB hz
  refine (pvalid_is hv'.out _ _ _ hsb.out hl'.out).mono ?_; rintro e w1 ⟨rfl, hb⟩
  replace hA := hA.more hb
  obtain ⟨hbl, p0, p1, p2, p3, e0, e1, r0, r1, r2, r3, hop⟩ := id hA
  clear hbl hop
  go_wp2_with fail
  refine (edge_is' _ he'.out).mono ?_; rintro e w2 ⟨rfl, hb2⟩
  clear p0 p1 p2 p3 e0 e1 r0 r1 r2 r3
  replace hA := hA.more hb2
  obtain ⟨hbl, p0, p1, p2, p3, e0, e1, r0, r1, r2, r3, hop⟩ := id hA
  clear hbl hop
  go_wp2_with fail
  refine (ccheck_n M kw kh K s out kl ek'.out _ _ _ (is_below hkb.out hA.below) hkl'.out).mono ?_; rintro e w3 ⟨rfl, hb3⟩
  rw [hC.out]
  clear p0 p1 p2 p3 e0 e1 r0 r1 r2 r3
  replace hA := hA.more hb3
  obtain ⟨⟨v0, o0, f0⟩, ⟨v1, o1, f1⟩, ⟨v2, o2, f2⟩, ⟨v3, o3, f3⟩⟩ := open_cells hA.op
  go_wp2_with fail
  rw [hO.out, hc.out]
  refine ret_plane2 Try.results20 rfl rfl rfl hA.op ⟨bput4 (bthen hB'.out hA.below) (by omega) _ _ _ _, rfl⟩
set_option maxHeartbeats 4000000 in
theorem dtile_4 (W H M : Int) (P : List Int) (a : Option Addr) (cap : Nat) (q f kw kh : Int) (K : List Int) (ka : Option Addr) (kl kc : Nat) (s out x0 y0 x1 y1 : Int) (w : World) (hs : SliceIs w a P) (hl : P.length ≤ 9223372036854775807) (hk : SliceIs w ka K) (ek : K.length = kl) (hkl : kl ≤ 9223372036854775807) (hv : planeB W H M P = true) (he : edgeB q f M = true) (hC0 : checkC M kw kh K s out = 0) (hf0 : emptyB x0 y0 x1 y1 = true) :
    Calls Try.prog 20 #[.agg #[.int .i64 W, .int .i64 H, .int .i64 M, .slice a P.length cap], .agg #[.int .i64 q, .int .i64 f], .int .i64 kw, .int .i64 kh, .slice ka kl kc, .int .i64 s, .int .i64 out, .agg #[.int .i64 x0, .int .i64 y0, .int .i64 x1, .int .i64 y1]] w (CTilePost (x1 - x0) (y1 - y0) out (tileO W H M P q f kw kh K s out x0 y0 x1 y1) (tileC W H M P q f kw kh K s out x0 y0 x1 y1) w) := by
  have hc := Lib.hid (show tileC W H M P q f kw kh K s out x0 y0 x1 y1 = 8 from by unfold tileC; rw [if_neg (by simp [hv, he]), hC0, if_neg (by simp), if_pos (.inl (by unfold fullB; simp [hf0]))])
  have hO := Lib.hid (tileO_none hc.out (by decide))
  have hs' := Lib.hid hs
  have hk' := Lib.hid hk
  have hl' := Lib.hid hl
  have hkl' := Lib.hid hkl
  have ek' := Lib.hid ek
  have hv' := Lib.hid hv
  have he' := Lib.hid he
  clear hv he
  have hC := Lib.hid hC0
  have hF := Lib.hid hf0
  clear hC0 hf0
  clear hs hk hl hkl ek
  go_enter Try.func20, Try.ntmps20
  go_wp2_with fail
  obtain ⟨W4, eW4⟩ : ∃ W4, (((w.alloc (.cells #[.int .i64 W, .int .i64 H, .int .i64 M, .slice a P.length cap] 35)).alloc (.cells #[.int .i64 q, .int .i64 f] 38)).alloc (.cells #[.int .i64 x0, .int .i64 y0, .int .i64 x1, .int .i64 y1] 33)).alloc (.cells #[.int .i64 0, .int .i64 0, .int .i64 0, .slice none 0 0] 35) = W4 := ⟨_, rfl⟩
  obtain ⟨hA, hB, hz⟩ := args_start w W H M (.slice a P.length cap) q f x0 y0 x1 y1 35 38 33 35 (.int .i64 0) (.int .i64 0) (.int .i64 0) (.slice none 0 0) eW4
  simp only [eW4]
  clear eW4
  have hsb := Lib.hid (is_below hs'.out hB)
  have hkb := Lib.hid (is_below hk'.out hB)
  have hB' := Lib.hid hB
  have hz' := Lib.hid hz
  clear hB hz
  refine (pvalid_is hv'.out _ _ _ hsb.out hl'.out).mono ?_; rintro e w1 ⟨rfl, hb⟩
  replace hA := hA.more hb
  obtain ⟨hbl, p0, p1, p2, p3, e0, e1, r0, r1, r2, r3, hop⟩ := id hA
  clear hbl hop
  go_wp2_with fail
  refine (edge_is' _ he'.out).mono ?_; rintro e w2 ⟨rfl, hb2⟩
  clear p0 p1 p2 p3 e0 e1 r0 r1 r2 r3
  replace hA := hA.more hb2
  obtain ⟨hbl, p0, p1, p2, p3, e0, e1, r0, r1, r2, r3, hop⟩ := id hA
  clear hbl hop
  go_wp2_with fail
  refine (ccheck_n M kw kh K s out kl ek'.out _ _ _ (is_below hkb.out hA.below) hkl'.out).mono ?_; rintro e w3 ⟨rfl, hb3⟩
  rw [hC.out]
  clear p0 p1 p2 p3 e0 e1 r0 r1 r2 r3
  replace hA := hA.more hb3
  obtain ⟨hbl, p0, p1, p2, p3, e0, e1, r0, r1, r2, r3, hop⟩ := id hA
  clear hbl hop
  go_wp2_with fail
  refine (empty_is hF.out _).mono ?_; rintro e w5 ⟨rfl, hb5⟩
  clear p0 p1 p2 p3 e0 e1 r0 r1 r2 r3
  replace hA := hA.more hb5
  obtain ⟨⟨v0, o0, f0⟩, ⟨v1, o1, f1⟩, ⟨v2, o2, f2⟩, ⟨v3, o3, f3⟩⟩ := open_cells hA.op
  go_wp2_with fail
  rw [hO.out, hc.out]
  refine ret_plane2 Try.results20 rfl rfl rfl hA.op ⟨bput4 (bthen hB'.out hA.below) (by omega) _ _ _ _, rfl⟩
set_option maxHeartbeats 4000000 in
theorem dtile_5 (W H M : Int) (P : List Int) (a : Option Addr) (cap : Nat) (q f kw kh : Int) (K : List Int) (ka : Option Addr) (kl kc : Nat) (s out x0 y0 x1 y1 : Int) (w : World) (hs : SliceIs w a P) (hl : P.length ≤ 9223372036854775807) (hk : SliceIs w ka K) (ek : K.length = kl) (hkl : kl ≤ 9223372036854775807) (hv : planeB W H M P = true) (he : edgeB q f M = true) (hC0 : checkC M kw kh K s out = 0) (hf0 : emptyB x0 y0 x1 y1 = false) (hi0 : insideB x0 y0 x1 y1 0 0 W H = false) :
    Calls Try.prog 20 #[.agg #[.int .i64 W, .int .i64 H, .int .i64 M, .slice a P.length cap], .agg #[.int .i64 q, .int .i64 f], .int .i64 kw, .int .i64 kh, .slice ka kl kc, .int .i64 s, .int .i64 out, .agg #[.int .i64 x0, .int .i64 y0, .int .i64 x1, .int .i64 y1]] w (CTilePost (x1 - x0) (y1 - y0) out (tileO W H M P q f kw kh K s out x0 y0 x1 y1) (tileC W H M P q f kw kh K s out x0 y0 x1 y1) w) := by
  have hc := Lib.hid (show tileC W H M P q f kw kh K s out x0 y0 x1 y1 = 8 from by unfold tileC; rw [if_neg (by simp [hv, he]), hC0, if_neg (by simp), if_pos (.inr hi0)])
  have hO := Lib.hid (tileO_none hc.out (by decide))
  have hs' := Lib.hid hs
  have hk' := Lib.hid hk
  have hl' := Lib.hid hl
  have hkl' := Lib.hid hkl
  have ek' := Lib.hid ek
  have hv' := Lib.hid hv
  have he' := Lib.hid he
  clear hv he
  have hC := Lib.hid hC0
  have hF := Lib.hid hf0
  have hI := Lib.hid hi0
  clear hC0 hf0 hi0
  clear hs hk hl hkl ek
  go_enter Try.func20, Try.ntmps20
  go_wp2_with fail
  obtain ⟨W4, eW4⟩ : ∃ W4, (((w.alloc (.cells #[.int .i64 W, .int .i64 H, .int .i64 M, .slice a P.length cap] 35)).alloc (.cells #[.int .i64 q, .int .i64 f] 38)).alloc (.cells #[.int .i64 x0, .int .i64 y0, .int .i64 x1, .int .i64 y1] 33)).alloc (.cells #[.int .i64 0, .int .i64 0, .int .i64 0, .slice none 0 0] 35) = W4 := ⟨_, rfl⟩
  obtain ⟨hA, hB, hz⟩ := args_start w W H M (.slice a P.length cap) q f x0 y0 x1 y1 35 38 33 35 (.int .i64 0) (.int .i64 0) (.int .i64 0) (.slice none 0 0) eW4
  simp only [eW4]
  clear eW4
  have hsb := Lib.hid (is_below hs'.out hB)
  have hkb := Lib.hid (is_below hk'.out hB)
  have hB' := Lib.hid hB
  have hz' := Lib.hid hz
  clear hB hz
  refine (pvalid_is hv'.out _ _ _ hsb.out hl'.out).mono ?_; rintro e w1 ⟨rfl, hb⟩
  replace hA := hA.more hb
  obtain ⟨hbl, p0, p1, p2, p3, e0, e1, r0, r1, r2, r3, hop⟩ := id hA
  clear hbl hop
  go_wp2_with fail
  refine (edge_is' _ he'.out).mono ?_; rintro e w2 ⟨rfl, hb2⟩
  clear p0 p1 p2 p3 e0 e1 r0 r1 r2 r3
  replace hA := hA.more hb2
  obtain ⟨hbl, p0, p1, p2, p3, e0, e1, r0, r1, r2, r3, hop⟩ := id hA
  clear hbl hop
  go_wp2_with fail
  refine (ccheck_n M kw kh K s out kl ek'.out _ _ _ (is_below hkb.out hA.below) hkl'.out).mono ?_; rintro e w3 ⟨rfl, hb3⟩
  rw [hC.out]
  clear p0 p1 p2 p3 e0 e1 r0 r1 r2 r3
  replace hA := hA.more hb3
  obtain ⟨hbl, p0, p1, p2, p3, e0, e1, r0, r1, r2, r3, hop⟩ := id hA
  clear hbl hop
  go_wp2_with fail
  refine (empty_is hF.out _).mono ?_; rintro e w5 ⟨rfl, hb5⟩
  clear p0 p1 p2 p3 e0 e1 r0 r1 r2 r3
  replace hA := hA.more hb5
  obtain ⟨hbl, p0, p1, p2, p3, e0, e1, r0, r1, r2, r3, hop⟩ := id hA
  clear hbl hop
  go_wp2_with fail
  refine (inside_is hI.out _).mono ?_; rintro e w6 ⟨rfl, hb6⟩
  clear p0 p1 p2 p3 e0 e1 r0 r1 r2 r3
  replace hA := hA.more hb6
  obtain ⟨⟨v0, o0, f0⟩, ⟨v1, o1, f1⟩, ⟨v2, o2, f2⟩, ⟨v3, o3, f3⟩⟩ := open_cells hA.op
  go_wp2_with fail
  rw [hO.out, hc.out]
  refine ret_plane2 Try.results20 rfl rfl rfl hA.op ⟨bput4 (bthen hB'.out hA.below) (by omega) _ _ _ _, rfl⟩
set_option maxRecDepth 100000 in
set_option maxHeartbeats 4000000 in
theorem dtile_6 (W H M : Int) (P : List Int) (a : Option Addr) (cap : Nat) (q f : Int) (kw kh : Nat) (K : List Int) (ka : Option Addr) (kl kc : Nat) (s out x0 y0 x1 y1 : Int) (w : World) (hs : SliceIs w a P) (hl : P.length ≤ 9223372036854775807) (hk : SliceIs w ka K) (ek : K.length = kl) (hkl : kl ≤ 9223372036854775807) (hv : planeB W H M P = true) (he : edgeB q f M = true) (hC0 : checkC M kw kh K s out = 0) (hf0 : fullB x0 y0 x1 y1 = true) (hi0 : insideB x0 y0 x1 y1 0 0 W H = true) :
    Calls Try.prog 20 #[.agg #[.int .i64 W, .int .i64 H, .int .i64 M, .slice a P.length cap], .agg #[.int .i64 q, .int .i64 f], .int .i64 (kw : Int), .int .i64 (kh : Int), .slice ka kl kc, .int .i64 s, .int .i64 out, .agg #[.int .i64 x0, .int .i64 y0, .int .i64 x1, .int .i64 y1]] w (CTilePost (x1 - x0) (y1 - y0) out (tileO W H M P q f kw kh K s out x0 y0 x1 y1) (tileC W H M P q f kw kh K s out x0 y0 x1 y1) w) := by
  obtain ⟨k1, k2, k3, k4, k5, k6, k7, k8⟩ := check_zero hC0
  have hok : cropOk W H M P x0 y0 x1 y1 := ⟨hv, by unfold fullB at hf0; simp at hf0; exact hf0.2, hi0⟩
  have he0 := Lib.hid hok.2.1
  obtain ⟨⟨a0, a1, a2⟩, b0, b1, b2⟩ := cropOk_bd hok
  obtain ⟨hsz, hlen, _⟩ := planeB_t.1 hv
  obtain ⟨⟨w1, w2⟩, ⟨h1, h2⟩, hp, m1, m2⟩ := sizeB_t.1 hsz
  obtain ⟨cw, hcw⟩ : ∃ cw : Nat, x1 - x0 = cw := ⟨(x1 - x0).toNat, by omega⟩
  obtain ⟨ch, hch⟩ : ∃ ch : Nat, y1 - y0 = ch := ⟨(y1 - y0).toNat, by omega⟩
  have hzs : sizeB cw ch out = true := by
    have h := cropOk_size hok
    rw [hcw, hch] at h
    obtain ⟨j1, j2, j3, j4⟩ := sizeB_t.1 h
    exact sizeB_t.2 ⟨j1, j2, j3, k7⟩
  have hzo := Lib.hid hzs
  have hc := Lib.hid (show tileC W H M P q f kw kh K s out x0 y0 x1 y1 = 0 from by unfold tileC; rw [if_neg (by simp [hv, he]), hC0, if_neg (by simp), if_neg (by simp [hf0, hi0])])
  have hO := Lib.hid (show tileO W H M P q f kw kh K s out x0 y0 x1 y1 = some (convL W H P q f kw kh K s out x0 y0 x1 y1) from by unfold tileO; rw [hc.out, if_pos rfl])
  obtain ⟨C, hCe⟩ : ∃ C, convL W H P q f kw kh K s out x0 y0 x1 y1 = C := ⟨_, rfl⟩
  have hCl : C.length = cw * ch := by rw [← hCe, convL_len, hcw, hch]; exact_mod_cast rfl
  have hCa := Lib.hid (show ∀ j, j < cw * ch → C.getD j 0 = convAt W H P q f kw kh K s out x0 y0 cw j from fun j hj => by
    rw [← hCe, ← hcw]; refine convL_at ?_; rw [hcw, hch]; exact_mod_cast hj)
  rw [hCe] at hO
  have hcc : cw * ch ≤ 4096 := by
    have h := (sizeB_t.1 hzs).2.2.1
    have e : ((cw : Int) * (ch : Int)) = ((cw * ch : Nat) : Int) := by push_cast; rfl
    rw [e] at h; omega
  have hkk := Lib.hid (show kw * kh = kl by have h := k3; rw [ek] at h; exact_mod_cast h.symm)
  have hk1 := Lib.hid (show 1 ≤ kw ∧ kw ≤ 9 by omega)
  have hk2 := Lib.hid (show 1 ≤ kh ∧ kh ≤ 9 by omega)
  have hk4 := Lib.hid k4
  have hk6 := Lib.hid k6.2
  have hCl' := Lib.hid hCl
  have hwx : wrap64 (x1 - x0) = (cw : Int) := by rw [hcw]; unfold wrap64; omega
  have hwy : wrap64 (y1 - y0) = (ch : Int) := by rw [hch]; unfold wrap64; omega
  have hxb := Lib.hid (show x0 + cw ≤ 128 ∧ y0 + ch ≤ 128 ∧ 0 ≤ x0 ∧ 0 ≤ y0 ∧ x0 + cw = x1 ∧ y0 + ch = y1 by omega)
  have hs' := Lib.hid hs
  have hk' := Lib.hid hk
  have hl' := Lib.hid hl
  have hkl' := Lib.hid hkl
  have ek' := Lib.hid ek
  have hv' := Lib.hid hv
  have he' := Lib.hid he
  have hC := Lib.hid hC0
  have hF := he0
  have hI := Lib.hid hi0
  clear hv he hC0 hf0 hi0 k1 k2 k3 k4 k5 k6 k7 k8 hok a0 a1 a2 b0 b1 b2 hsz hlen w1 w2 h1 h2 hp m1 m2 hzs hCe hCl hcw hch he0
  clear hs hk hl hkl ek
  go_enter Try.func20, Try.ntmps20
  go_wp2_with fail
  obtain ⟨W4, eW4⟩ : ∃ W4, (((w.alloc (.cells #[.int .i64 W, .int .i64 H, .int .i64 M, .slice a P.length cap] 35)).alloc (.cells #[.int .i64 q, .int .i64 f] 38)).alloc (.cells #[.int .i64 x0, .int .i64 y0, .int .i64 x1, .int .i64 y1] 33)).alloc (.cells #[.int .i64 0, .int .i64 0, .int .i64 0, .slice none 0 0] 35) = W4 := ⟨_, rfl⟩
  obtain ⟨hA, hB, hz⟩ := args_start w W H M (.slice a P.length cap) q f x0 y0 x1 y1 35 38 33 35 (.int .i64 0) (.int .i64 0) (.int .i64 0) (.slice none 0 0) eW4
  simp only [eW4]
  clear eW4
  have hsb := Lib.hid (is_below hs'.out hB)
  have hkb := Lib.hid (is_below hk'.out hB)
  have hB' := Lib.hid hB
  have hz' := Lib.hid hz
  clear hB hz
  refine (pvalid_is hv'.out _ _ _ hsb.out hl'.out).mono ?_; rintro e w1 ⟨rfl, hb⟩
  replace hA := hA.more hb
  obtain ⟨hbl, p0, p1, p2, p3, e0, e1, r0, r1, r2, r3, hop⟩ := id hA
  clear hbl hop
  go_wp2_with fail
  refine (edge_is' _ he'.out).mono ?_; rintro e w2 ⟨rfl, hb2⟩
  clear p0 p1 p2 p3 e0 e1 r0 r1 r2 r3
  replace hA := hA.more hb2
  obtain ⟨hbl, p0, p1, p2, p3, e0, e1, r0, r1, r2, r3, hop⟩ := id hA
  clear hbl hop
  go_wp2_with fail
  refine (ccheck_n M kw kh K s out kl ek'.out _ _ _ (is_below hkb.out hA.below) hkl'.out).mono ?_; rintro e w3 ⟨rfl, hb3⟩
  rw [hC.out]
  clear p0 p1 p2 p3 e0 e1 r0 r1 r2 r3
  replace hA := hA.more hb3
  obtain ⟨hbl, p0, p1, p2, p3, e0, e1, r0, r1, r2, r3, hop⟩ := id hA
  clear hbl hop
  go_wp2_with fail
  refine (empty_is hF.out _).mono ?_; rintro e w5 ⟨rfl, hb5⟩
  clear p0 p1 p2 p3 e0 e1 r0 r1 r2 r3
  replace hA := hA.more hb5
  obtain ⟨hbl, p0, p1, p2, p3, e0, e1, r0, r1, r2, r3, hop⟩ := id hA
  clear hbl hop
  go_wp2_with fail
  refine (inside_is hI.out _).mono ?_; rintro e w6 ⟨rfl, hb6⟩
  clear p0 p1 p2 p3 e0 e1 r0 r1 r2 r3
  replace hA := hA.more hb6
  obtain ⟨hbl, p0, p1, p2, p3, e0, e1, r0, r1, r2, r3, hop⟩ := id hA
  clear hbl hop
  go_wp2_with fail
  refine (cnew_is hzo.out _).mono ?_; rintro e wN ⟨g, gc, rfl, hPix, hb⟩
  simp only [pv]
  clear p0 p1 p2 p3 e0 e1 r0 r1 r2 r3
  have hgl := hPix.lt
  have hsz9 := hA.below.size
  have hC0 : TileS W4 w.heap.size wN.heap.size g gc W H M (.slice a P.length cap) q f x0 y0 x1 y1 cw ch out (List.replicate (cw * ch) 0) (wN.alloc (.cells #[.int .i64 cw, .int .i64 ch, .int .i64 out, .slice (some ⟨g, 0, none⟩) (cw * ch) gc] 35)) :=
    ⟨(hA.more hb).more (balloc (bref _) _), by go_cell, by go_cell, by go_cell, by rw [List.length_replicate]; go_cell, (hPix.base hsz9).below (balloc (bref _) _), by have := hz'.out; omega⟩
  replace hC0 := Lib.hid hC0
  clear hb hPix hgl hsz9 hA hwx hwy
  have q1 := hC0.out.q1
  go_wp2_with fail
  clear q1
  go_loopw [77] (fun y wr => ∃ (k : Nat) (Kp : List Int), k ≤ ch ∧ y = .int .i64 k ∧ Hid (Kp.length = cw * ch ∧ Agree Kp C (k * cw)) ∧ Hid (TileS W4 w.heap.size wN.heap.size g gc W H M (.slice a P.length cap) q f x0 y0 x1 y1 cw ch out Kp wr)) (fun y _ => ch - (intOf y).toNat)
  case atStart => exact ⟨0, _, by omega, by simp, Lib.hid ⟨by simp, by rw [Nat.zero_mul]; exact agree_zero _ _⟩, hC0⟩
  case round =>
    clear hC0
    obtain ⟨k, Kp, hk, rfl, hKp, hS⟩ := hrel
    by_cases hlt : k < ch
    · have hkI : (k : Int) < ch := by omega
      have wy1 : wrap64 ((k : Int) + 1) = (k : Int) + 1 := by have := hxb.out; unfold wrap64; omega
      have my1 := down_meas hlt
      have hkc : k + 1 ≤ ch := hlt
      have q0 := hS.out.q0
      go_wp2_with fail
      clear q0
      go_loopw [82] (fun x wr => ∃ (j : Nat) (Kp : List Int), j ≤ cw ∧ x = .int .i64 j ∧ Hid (Kp.length = cw * ch ∧ Agree Kp C (k * cw + j)) ∧ Hid (TileS W4 w.heap.size wN.heap.size g gc W H M (.slice a P.length cap) q f x0 y0 x1 y1 cw ch out Kp wr)) (fun x _ => cw - (intOf x).toNat)
      case atStart => exact ⟨0, Kp, by omega, by simp, Lib.hid ⟨hKp.out.1, by rw [Nat.add_zero]; exact hKp.out.2⟩, hS⟩
      case round =>
        clear hKp hS
        obtain ⟨j, Kp, hj, rfl, hKp, hS⟩ := hrel
        by_cases hltj : j < cw
        · have hjI : (j : Int) < cw := by omega
          have wx1 : wrap64 ((j : Int) + 1) = (j : Int) + 1 := by have := hxb.out; unfold wrap64; omega
          have mx1 := down_meas hltj
          have hjc : j + 1 ≤ cw := hltj
          have hlk : k * cw + j < cw * ch := by
            have h1 : (k + 1) * cw ≤ ch * cw := Nat.mul_le_mul_right _ (by omega)
            rw [Nat.add_one_mul] at h1
            rw [Nat.mul_comm cw ch]; omega
          have hP : Hid (clampN (shiftN (convS W H P q f kw kh K (x0 + j) (y0 + k) kl) s) out = C.getD (k * cw + j) 0) := Lib.hid (by
            rw [hCa.out _ hlk]
            unfold convAt convP
            have e1 : ((k * cw + j : Nat) : Int) % cw = j := by
              push_cast
              rw [Int.add_comm, Int.add_mul_emod_self_right]
              exact Int.emod_eq_of_lt (by omega) (by omega)
            have e2 : ((k * cw + j : Nat) : Int) / cw = k := by
              push_cast
              rw [Int.add_comm, Int.add_mul_ediv_right _ _ (by omega), Int.ediv_eq_zero_of_lt (by omega) (by omega)]; omega
            rw [e1, e2, ek'.out])
          obtain ⟨xx, yy, hw, hh, left, top, u1, u2, u3, u4, u5, u6, u7, u8, u9, u10, hXb, hYb, hel, het⟩ := place_wraps (x0 := x0) (y0 := y0) (cw := cw) (ch := ch) hk1.out hk2.out hxb.out.1 hxb.out.2.1 hxb.out.2.2.1 hxb.out.2.2.2.1 hltj hlt
          rw [u9, u10] at hP
          obtain ⟨sm, esm⟩ : ∃ sm, convS W H P q f kw kh K xx yy kl = sm := ⟨_, rfl⟩
          obtain ⟨sf, esf⟩ : ∃ sf, shiftN sm s = sf := ⟨_, rfl⟩
          obtain ⟨V, eV⟩ : ∃ V, clampN sf out = V := ⟨_, rfl⟩
          have hVC := hP.out
          rw [esm, esf, eV] at hVC
          have ESM := Lib.hid esm
          have ESF := Lib.hid esf
          have EVV := Lib.hid eV
          have HXB := Lib.hid hXb
          have HYB := Lib.hid hYb
          have HEL := Lib.hid hel
          have HET := Lib.hid het
          clear hP u9 u10 hXb hYb hel het esm esf eV
          obtain ⟨hbl, p0, p1, p2, p3, e0, e1, r0, r1, r2, r3, hop⟩ := id hS.out.args
          clear hbl hop
          go_wp2_with fail
          refine (csum_any W H M P a cap q f kw kh K ka kl kc xx yy left top _ (is_below hsb.out hS.out.args.below) hl'.out (is_below hkb.out hS.out.args.below) ek'.out hv'.out he'.out hk4.out hk6.out hk1.out hk2.out hkk.out HXB.out HYB.out HEL.out HET.out).mono ?_; rintro e w8 ⟨rfl, hb8⟩
          rw [ESM.out]
          clear p0 p1 p2 p3 e0 e1 r0 r1 r2 r3 u1 u2 u3 u4 u5 u6 u7 u8
          replace hS := Lib.hid (hS.out.more hb8)
          clear hb8
          obtain ⟨S, eS⟩ : ∃ S : Nat, (k : Int) * cw = S := ⟨k * cw, by push_cast; rfl⟩
          have eSn : k * cw = S := by exact_mod_cast eS
          rw [eSn] at hlk hVC hKp
          obtain ⟨D, eD⟩ : ∃ D : Nat, S + j = D := ⟨_, rfl⟩
          rw [eD] at hlk hVC hKp
          have hDl : D < Kp.length := by rw [hKp.out.1]; exact hlk
          have hD4 : D < 4096 := Nat.lt_of_lt_of_le hlk hcc
          have hD1 : (D : Int) < Kp.length := by omega
          have hdc := hS.out.pix.cell hDl
          have hdf := hS.out.pix.frozen D
          have hS2 := Lib.hid ((hS.out.drewN 1).store D V)
          have hK2 := Lib.hid (show (Kp.set D V).length = cw * ch ∧ Agree (Kp.set D V) C (D + 1) from ⟨by rw [List.length_set]; exact hKp.out.1, agree_set hKp.out.2 hDl hVC⟩)
          have HVC := Lib.hid hVC
          clear hVC
          have e2 : IntKind.i64.wrap ((k : Int) * cw) = S := by rw [eS]; exact IntWalk.i64_in _ (by omega)
          have e4 : IntKind.i64.wrap ((S : Int) + j) = (D : Int) := by rw [show (S : Int) + j = D by omega]; exact IntWalk.i64_in _ (by omega)
          have hfar := hS.out.far
          have hff : ¬ g = w.heap.size + 1 + 1 ∧ ¬ g = wN.heap.size := ⟨hfar.2.2.1, hfar.2.2.2.2⟩
          have hPx : PutS w.heap.size wN.heap.size g D (.slice (some ⟨g, 0, none⟩) Kp.length gc) x0 y0 cw w8.drew :=
            ⟨hS.out.args.r0, hS.out.args.r1, hS.out.q0, hS.out.q3, (show w8.cell? ⟨g, D, none⟩ = some (valAt w8 g D) by simp [valAt, hdc]), hdf⟩
          have eDn' := Lib.hid (show k * cw + (j + 1) = D + 1 by omega)
          clear hDl hlk hfar eSn eD eS
          go_wp2_with fail
          haveI : Nonempty (In (PutS w.heap.size wN.heap.size g D (.slice (some ⟨g, 0, none⟩) Kp.length gc) x0 y0 cw)) := ⟨⟨_, hPx⟩⟩
          have u2 : ∀ s : In (PutS w.heap.size wN.heap.size g D (.slice (some ⟨g, 0, none⟩) Kp.length gc) x0 y0 cw), s.w.cell? ⟨wN.heap.size, 0, none⟩ = some (.int .i64 cw) := fun s => s.h.2.2.1
          have u3 : ∀ s : In (PutS w.heap.size wN.heap.size g D (.slice (some ⟨g, 0, none⟩) Kp.length gc) x0 y0 cw), s.w.cell? ⟨wN.heap.size, 3, none⟩ = some (.slice (some ⟨g, 0, none⟩) Kp.length gc) := fun s => s.h.2.2.2.1
          refine wp_region_noPanic ?_
          refine wp_region_held_drew (S := fun w' => ∃ s : In (PutS w.heap.size wN.heap.size g D (.slice (some ⟨g, 0, none⟩) Kp.length gc) x0 y0 cw), w' = s.w) (by kernel_rfl) ⟨⟨World.drew _, hPx⟩, rfl⟩ (fun hHeld => ?_)
          refine held_run 10 0 5 rfl (by decide) (by kernel_rfl) (by kernel_rfl) (by kernel_rfl) (fun _ _ _ _ _ h => h) hHeld ?_
          simp only [List.take_succ_cons, List.take_zero, List.drop_succ_cons, List.drop_zero]
          repeat (go_big_quiet_step (fail))
          refine wpQuiet_nil ?_
          refine held_run 1 11 4 rfl (by decide) (by kernel_rfl) (by kernel_rfl) (by kernel_rfl) (fun _ _ _ _ _ h => h) hHeld ?_
          simp only [List.take_succ_cons, List.take_zero, List.drop_succ_cons, List.drop_zero]
          repeat (go_big_quiet_step (fail))
          refine wpQuiet_nil ?_
          refine wpAnyH_ready (rs := [10]) (by kernel_rfl) (by simp) (AllReadyH.cons rfl (fun KQ hKQ => ?_) AllReadyH.nil)
          go_simp
          go_at_call 42; refine (cshift_is ESF.out _).mono ?_; rintro e w9 ⟨rfl, rfl⟩
          go_wp2_with fail
          refine hKQ.out _ _ ⟨⟨_, hPx⟩, rfl⟩ (fun hHeld2 => ?_)
          clear hKQ KQ
          try simp only [Act.put, List.setIfInBounds_toArray, List.set_cons_zero, List.set_cons_succ]
          refine wpAnyH_ready (rs := [12]) (by kernel_rfl) (by simp) (AllReadyH.cons rfl (fun KQ hKQ => ?_) AllReadyH.nil)
          go_simp
          go_at_call 41; refine (cclamp_is EVV.out _).mono ?_; rintro e w9 ⟨rfl, rfl⟩
          go_wp2_with fail
          refine hKQ.out _ _ ⟨⟨_, hPx⟩, rfl⟩ (fun hHeld2 => ?_)
          clear hKQ KQ
          try simp only [Act.put, List.setIfInBounds_toArray, List.set_cons_zero, List.set_cons_succ]
          refine held_run 1 13 1 rfl (by decide) (by kernel_rfl) (by kernel_rfl) (by kernel_rfl) (fun _ _ _ _ _ h => h) hHeld ?_
          simp only [List.take_succ_cons, List.take_zero, List.drop_succ_cons, List.drop_zero]
          repeat (go_big_quiet_step (fail))
          refine wpQuiet_nil ?_
          refine wpAnyH_ready (rs := [14]) (by kernel_rfl) (by simp) (AllReadyH.cons rfl (fun KQ hKQ => ?_) AllReadyH.nil)
          go_simp
          refine hKQ.out _ _ ⟨⟨_, putS_set hff hPx _⟩, rfl⟩ (fun hHeld2 => ?_)
          clear hKQ KQ u2 u3
          refine wpAnyH_done (by kernel_rfl) ?_ _
          refine NoPanic.normal ?_
          go_wp2_with fail
          exact ⟨⟨j + 1, _, hjc, by (try rw [wx1]); exact congrArg (Value.int .i64) (by omega), Lib.hid (by rw [eDn'.out]; exact hK2.out), hS2⟩, by (try rw [wx1]); exact mx1⟩
        · obtain rfl : j = cw := by omega
          have hge : ¬ (j : Int) < j := by omega
          go_wp2_with fail
          go_roundw
          case rel => exact ⟨k + 1, Kp, hkc, by (try rw [wy1]); exact congrArg (Value.int .i64) (by omega), Lib.hid ⟨hKp.out.1, by rw [Nat.add_one_mul]; exact hKp.out.2⟩, hS⟩
          case measure => (try rw [wy1]); exact my1
    · obtain rfl : k = ch := by omega
      have hge : ¬ (k : Int) < k := by omega
      have hKC := Lib.hid (agree_done hKp.out.2 (by rw [hCl'.out]; exact hKp.out.1) (by rw [hKp.out.1, Nat.mul_comm]))
      obtain ⟨q0, q1, q2, q3⟩ := And.intro hS.out.q0 (And.intro hS.out.q1 (And.intro hS.out.q2 hS.out.q3))
      obtain ⟨⟨v0, o0, f0⟩, ⟨v1, o1, f1⟩, ⟨v2, o2, f2⟩, ⟨v3, o3, f3⟩⟩ := open_cells hS.out.args.op
      go_wp2_with fail
      rw [hO.out, show x1 - x0 = (cw : Int) by have := hxb.out; omega, show y1 - y0 = (k : Int) by have := hxb.out; omega]
      refine ret_plane2 Try.results20 rfl rfl rfl hS.out.args.op ⟨bput4 (bthen hB'.out hS.out.args.below) (by omega) _ _ _ _, g, gc, ?_, ?_⟩
      · rw [hKC.out]; rfl
      · rw [← hKC.out]
        obtain ⟨g0, g1, g2, g3, g4⟩ := hS.out.far
        exact (hS.out.pix.base (by have := hz'.out; omega)).grown (gput4 (gref _ (some (w.heap.size + 1 + 1 + 1))) (.inr rfl) _ _ _ _) (by simpa using g3)
theorem ctile_any (W H M : Int) (P : List Int) (a : Option Addr) (cap : Nat) (q f kw kh : Int) (K : List Int) (ka : Option Addr) (kl kc : Nat) (s out x0 y0 x1 y1 : Int) (w : World) (hs : SliceIs w a P) (hl : P.length ≤ 9223372036854775807) (hk : SliceIs w ka K) (ek : K.length = kl) (hkl : kl ≤ 9223372036854775807) :
    Calls Try.prog 20 #[.agg #[.int .i64 W, .int .i64 H, .int .i64 M, .slice a P.length cap], .agg #[.int .i64 q, .int .i64 f], .int .i64 kw, .int .i64 kh, .slice ka kl kc, .int .i64 s, .int .i64 out, .agg #[.int .i64 x0, .int .i64 y0, .int .i64 x1, .int .i64 y1]] w (CTilePost (x1 - x0) (y1 - y0) out (tileO W H M P q f kw kh K s out x0 y0 x1 y1) (tileC W H M P q f kw kh K s out x0 y0 x1 y1) w) := by
  rcases tile_cases W H M P q f kw kh K s out x0 y0 x1 y1 with ⟨h1, _⟩ | ⟨h1, h2, _⟩ | ⟨h1, h2, ⟨h3, _⟩ | ⟨h3, h4⟩⟩
  · exact dtile_1 W H M P a cap q f kw kh K ka kl kc s out x0 y0 x1 y1 w hs hl hk ek hkl h1
  · exact dtile_2 W H M P a cap q f kw kh K ka kl kc s out x0 y0 x1 y1 w hs hl hk ek hkl h1 h2
  · exact dtile_3 W H M P a cap q f kw kh K ka kl kc s out x0 y0 x1 y1 w hs hl hk ek hkl h1 h2 _ rfl h3
  · clear h4
    rcases hE : emptyB x0 y0 x1 y1 with _ | _
    · rcases hI : insideB x0 y0 x1 y1 0 0 W H with _ | _
      · exact dtile_5 W H M P a cap q f kw kh K ka kl kc s out x0 y0 x1 y1 w hs hl hk ek hkl h1 h2 h3 hE hI
      · obtain ⟨k1, k2, _⟩ := check_zero h3
        obtain ⟨kwn, rfl⟩ : ∃ n : Nat, kw = n := ⟨kw.toNat, by omega⟩
        obtain ⟨khn, rfl⟩ : ∃ n : Nat, kh = n := ⟨kh.toNat, by omega⟩
        exact dtile_6 W H M P a cap q f kwn khn K ka kl kc s out x0 y0 x1 y1 w hs hl hk ek hkl h1 h2 h3 (by unfold fullB; rw [(insideB_t.1 hI).1, hE]; rfl) hI
    · exact dtile_4 W H M P a cap q f kw kh K ka kl kc s out x0 y0 x1 y1 w hs hl hk ek hkl h1 h2 h3 hE
end Go.Proofs.Ytibmoibhbgbfoaa
