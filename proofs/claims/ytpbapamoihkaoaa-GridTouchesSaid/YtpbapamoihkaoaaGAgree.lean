/- The comparison of all functions of a grid with the reference returns true, whatever the numbers and the rectangle are; the world gets new blocks at most. -/
import Derived.Test.YtpbapamoihkaoaaGKit
import Derived.Test.YtpbapamoihkaoaaPSame
namespace Go.Proofs.Ytpbapamoihkaoaa
open Go.ChangeShapes Go.WideShapes Go.ChangeAt Go.RowKit
set_option linter.unusedVariables false
set_option linter.unusedSimpArgs false

theorem rof_is {w h t u x y n : Int} {b : Bool} (hn : ofN w h t u x y = n) (hb : ofB w h t u x y = b) (w0 : World) : Calls Try.prog 28 #[.int .i64 w, .int .i64 h, .int .i64 t, .int .i64 u, .int .i64 x, .int .i64 y] w0 fun e w' => e = .returned (.tuple #[.int .i64 n, .bool b]) ∧ Below w0.heap.size w0 w' := by
  have := rof_any w h t u x y w0
  unfold OfPost at this
  rw [hn, hb] at this; exact this
theorem rtouch_is {w h t u a b c d : Int} {L : List Int} (hL : touchL w h t u a b c d = L) (w0 : World) : Calls Try.prog 30 #[.int .i64 w, .int .i64 h, .int .i64 t, .int .i64 u, .agg #[.int .i64 a, .int .i64 b, .int .i64 c, .int .i64 d]] w0 fun e w' => ∃ a cap, e = .returned (.slice a L.length cap) ∧ SliceIs w' a L ∧ Below w0.heap.size w0 w' := by
  subst hL; exact rtouch_any w h t u a b c d w0
theorem rsame_is {L : List Int} {a b : Option Addr} {cap cap' : Nat} (w : World) (ha : SliceIs w a L) (hb : SliceIs w b L) (hl : L.length ≤ 16384) :
    Calls Try.prog 29 #[.slice a L.length cap, .slice b L.length cap'] w (TestPost true w) := by
  have := rsame_any L L a b cap cap' w ha hb (by omega) (by omega)
  simpa using this
/-- three boxes, laid open, and hidden that only new blocks came -/
abbrev ThreeB (w : World) (q0 : Nat) (a b c d : Int) (q1 q2 : Nat) (p q r s : Int) (w' : World) : Prop :=
  Hid (Below w.heap.size w w') ∧ BoxA w' q0 a b c d ∧ BoxA w' q1 p q r s ∧ BoxA w' q2 p q r s
theorem threeB_below {w : World} {q0 : Nat} {a b c d : Int} {q1 q2 : Nat} {p q r s : Int} {w' w'' : World} (hb : Below w'.heap.size w' w'') (h : ThreeB w q0 a b c d q1 q2 p q r s w') : ThreeB w q0 a b c d q1 q2 p q r s w'' :=
  ⟨Lib.hid (bthen h.1.out hb), boxA_below hb h.2.1, boxA_below hb h.2.2.1, boxA_below hb h.2.2.2⟩
set_option maxRecDepth 100000 in
set_option maxHeartbeats 4000000 in
theorem agrees_any (w h t u i x y a b c d : Int) (W : World) : Calls Try.prog 12 #[.int .i64 w, .int .i64 h, .int .i64 t, .int .i64 u, .int .i64 i, .int .i64 x, .int .i64 y, .agg #[.int .i64 a, .int .i64 b, .int .i64 c, .int .i64 d]] W (TestPost true W) := by
  obtain ⟨C, eC⟩ : ∃ C, colN w h t u = C := ⟨_, rfl⟩
  obtain ⟨R, eR⟩ : ∃ R, rowN w h t u = R := ⟨_, rfl⟩
  obtain ⟨n, en⟩ : ∃ n, ofN w h t u x y = n := ⟨_, rfl⟩
  obtain ⟨o, eo⟩ : ∃ o, ofB w h t u x y = o := ⟨_, rfl⟩
  obtain ⟨v, ev⟩ : ∃ v, tileB w h t u i = v := ⟨_, rfl⟩
  obtain ⟨p, q, r, s, eT⟩ : ∃ p q r s, tileR w h t u i = ⟨p, q, r, s⟩ := ⟨_, _, _, _, rfl⟩
  obtain ⟨L, eL⟩ : ∃ L, touchL w h t u a b c d = L := ⟨_, rfl⟩
  have hLl := touchL_len w h t u a b c d
  rw [eL] at hLl
  have EC := Lib.hid eC
  have ER := Lib.hid eR
  have En := Lib.hid en
  have Eo := Lib.hid eo
  have Ev := Lib.hid ev
  have ET := Lib.hid eT
  have EL := Lib.hid eL
  clear eC eR en eo ev eT eL
  go_enter Try.func12, Try.ntmps12
  go_wp2_with fail
  refine (count_is EC.out ER.out _).mono ?_; rintro e w1 ⟨rfl, rfl⟩
  go_wp2_with fail
  refine (rcount_is EC.out ER.out _).mono ?_; rintro e w1 ⟨rfl, rfl⟩
  have HB0 := Lib.hid (balloc (bref W) (.cells #[.int .i64 a, .int .i64 b, .int .i64 c, .int .i64 d] 31))
  have HX0 := Lib.hid (Box.new W a b c d 31)
  go_wp2_with fail
  refine (gtile_is Ev.out ET.out _).mono ?_; rintro e w1 ⟨rfl, hb⟩
  have HB1 := Lib.hid (balloc (bthen HB0.out hb) (.cells #[.int .i64 p, .int .i64 q, .int .i64 r, .int .i64 s] 31))
  have HX1 := Lib.hid ((HX0.out.below hb).below (balloc (bref w1) (.cells #[.int .i64 p, .int .i64 q, .int .i64 r, .int .i64 s] 31)))
  have HY1 := Lib.hid (Box.new w1 p q r s 31)
  clear HB0 HX0 hb
  go_wp2_with fail
  refine (rtile_is Ev.out ET.out _).mono ?_; rintro e w2 ⟨rfl, hb⟩
  have HB2 := Lib.hid (balloc (bthen HB1.out hb) (.cells #[.int .i64 p, .int .i64 q, .int .i64 r, .int .i64 s] 31))
  have HX2 := Lib.hid ((HX1.out.below hb).below (balloc (bref w2) (.cells #[.int .i64 p, .int .i64 q, .int .i64 r, .int .i64 s] 31)))
  have HY2 := Lib.hid ((HY1.out.below hb).below (balloc (bref w2) (.cells #[.int .i64 p, .int .i64 q, .int .i64 r, .int .i64 s] 31)))
  have HZ2 := Lib.hid (Box.new w2 p q r s 31)
  clear HB1 HX1 HY1 hb
  go_wp2_with fail
  refine (gof_is En.out Eo.out _).mono ?_; rintro e w3 ⟨rfl, hb⟩
  have HB3 := Lib.hid (bthen HB2.out hb)
  have HX3 := Lib.hid (HX2.out.below hb)
  have HY3 := Lib.hid (HY2.out.below hb)
  have HZ3 := Lib.hid (HZ2.out.below hb)
  clear HB2 HX2 HY2 HZ2 hb
  go_wp2_with fail
  refine (rof_is En.out Eo.out _).mono ?_; rintro e w4 ⟨rfl, hb⟩
  have hO : ThreeB W W.heap.size a b c d w1.heap.size w2.heap.size p q r s w4.drew :=
    threeB_below (bdrewN (bref w4) 1) ⟨Lib.hid (bthen HB3.out hb), HX3.out.below hb, HY3.out.below hb, HZ3.out.below hb⟩
  clear HB3 HX3 HY3 HZ3 hb
  go_upto_region 7 with fail
  first | go_must (go_region_held3 (fun w' => ThreeB W W.heap.size a b c d w1.heap.size w2.heap.size p q r s w') ((first | with_reducible exact hO | with_reducible exact threeB_below hgb ‹_› | with_reducible exact threeB_below hrb ‹_› | with_reducible exact threeB_below hsb ‹_›))
    (first
      | (go_at_call 19; refine (gtouch_is EL.out _).mono ?_; rintro e wg ⟨ga, gc, rfl, hgs, hgb⟩; replace hgs := Lib.hid hgs)
      | (go_at_call 30; refine (rtouch_is EL.out _).mono ?_; rintro e wr ⟨ra, rc, rfl, hrs, hrb⟩; replace hrs := Lib.hid hrs)
      | (go_at_call 29; refine (rsame_is _ (by first | exact hgs.out | exact is_below hgs.out hrb) (by first | exact hrs.out | exact is_below hrs.out hgb) hLl).mono ?_; rintro e ws ⟨rfl, hsb⟩))) | skip
  all_goals
    have hfin := Lib.hid (show ThreeB W W.heap.size a b c d w1.heap.size w2.heap.size p q r s _ from ‹_›).1.out
    go_wp2_with fail
    go_ret
    exact ⟨rfl, hfin.out⟩
end Go.Proofs.Ytpbapamoihkaoaa
