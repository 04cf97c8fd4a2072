/- Tiles, crops and equal planes in the form in which the laws' walks meet them. -/
import Derived.Test.YtibmoibhbgbfoaaCTile
import Derived.Test.YtibmoibhbgbfoaaCLawPlain
import Derived.Test.YtibmoibhbgbfoaaPRCrop
import Derived.Test.YtibmoibhbgbfoaaPPlain
import Derived.Test.YtibmoibhbgbfoaaPSized
import Derived.Test.YtibmoibhbgbfoaaCProg
namespace Go.Proofs.Ytibmoibhbgbfoaa
open Go.ChangeShapes Go.WideShapes Go.ChangeAt Go.RowKit
set_option linter.unusedVariables false
set_option linter.unusedSimpArgs false

/-- a plane came back, and no error -/
def TileGot (cw ch out : Int) (n : Nat) (C : List Int) (w : World) (e : Ending) (w' : World) : Prop := ∃ g cap, e = .returned (.tuple #[.agg #[.int .i64 cw, .int .i64 ch, .int .i64 out, .slice (some ⟨g, 0, none⟩) n cap], .int .i64 0]) ∧ PixAt w.heap.size w' g cap C ∧ Below w.heap.size w w'
theorem post_got {cw ch out : Int} {n : Nat} {o : Option (List Int)} {C : List Int} {c : Int} {w : World} {e : Ending} {w' : World} (h : CTilePost cw ch out o c w e w') (ho : o = some C) (hn : C.length = n) : TileGot cw ch out n C w e w' := by
  subst ho; subst hn
  obtain ⟨hb, g, cap, he, hp⟩ := h
  exact ⟨g, cap, he, hp, hb⟩
theorem ctile_v {W H M : Int} {P : List Int} {q f kw kh : Int} {K : List Int} {s out x0 y0 x1 y1 cw ch : Int} {C : List Int} {pl kl n : Nat} (hv : planeB W H M P = true) (he : edgeB q f M = true) (hc : checkC M kw kh K s out = 0) (hx : 0 ≤ x0 ∧ x0 < x1 ∧ x1 ≤ W) (hy : 0 ≤ y0 ∧ y0 < y1 ∧ y1 ≤ H) (hw : x1 - x0 = cw) (hh : y1 - y0 = ch) (hC : convL W H P q f kw kh K s out x0 y0 x1 y1 = C) (hn : C.length = n) (ep : P.length = pl) (ek : K.length = kl)
    (a : Option Addr) (cap : Nat) (ka : Option Addr) (kc : Nat) (w : World) (hs : SliceIs w a P) (hk : SliceIs w ka K) :
    Calls Try.prog 20 #[.agg #[.int .i64 W, .int .i64 H, .int .i64 M, .slice a pl cap], .agg #[.int .i64 q, .int .i64 f], .int .i64 kw, .int .i64 kh, .slice ka kl kc, .int .i64 s, .int .i64 out, .agg #[.int .i64 x0, .int .i64 y0, .int .i64 x1, .int .i64 y1]] w (TileGot cw ch out n C w) := by
  subst hw; subst hh; subst ep
  have hl := plane_len hv
  obtain ⟨k1, k2, k3, _⟩ := check_zero hc
  have j1 : kw * kh ≤ 9 * 9 := Int.mul_le_mul k1.2 k2.2 (by omega) (by omega)
  exact (ctile_any W H M P a cap q f kw kh K ka kl kc s out x0 y0 x1 y1 w hs (by omega) hk ek (by omega)).mono fun e w' h => post_got h ((tile_ok hv he hc hx hy).2.trans (by rw [hC])) hn
/-- a plane came back and true -/
def PlaneGot (cw ch out : Int) (n : Nat) (C : List Int) (w : World) (e : Ending) (w' : World) : Prop := ∃ g cap, e = .returned (.tuple #[.agg #[.int .i64 cw, .int .i64 ch, .int .i64 out, .slice (some ⟨g, 0, none⟩) n cap], .bool true]) ∧ PixAt w.heap.size w' g cap C ∧ Below w.heap.size w w'
theorem rcrop_v {W H M : Int} {L : List Int} {x0 y0 x1 y1 cw ch : Int} {C : List Int} {pl n : Nat} (hO : cropO W H M L x0 y0 x1 y1 = some C) (hw : x1 - x0 = cw) (hh : y1 - y0 = ch) (hn : C.length = n) (ep : L.length = pl) (hl : pl ≤ 9223372036854775807) (a : Option Addr) (cap : Nat) (w : World) (hs : SliceIs w a L) :
    Calls Try.prog 23 #[.agg #[.int .i64 W, .int .i64 H, .int .i64 M, .slice a pl cap], .agg #[.int .i64 x0, .int .i64 y0, .int .i64 x1, .int .i64 y1]] w (PlaneGot cw ch M n C w) := by
  subst hw; subst hh; subst ep; subst hn
  exact (rcrop_any W H M L a cap x0 y0 x1 y1 w hs hl).mono fun e w' h => by
    obtain ⟨g, c, he, hp, hb⟩ := post_some h hO
    exact ⟨g, c, he, hp, hb⟩
theorem requal_v {W H M : Int} {L : List Int} {n : Nat} (hn : L.length = n) (hl : n ≤ 9223372036854775807) (a b : Option Addr) (cap cap' : Nat) (w : World) (ha : SliceIs w a L) (hb : SliceIs w b L) :
    Calls Try.prog 22 #[.agg #[.int .i64 W, .int .i64 H, .int .i64 M, .slice a n cap], .agg #[.int .i64 W, .int .i64 H, .int .i64 M, .slice b n cap']] w (TestPost true w) := by
  subst hn
  have h : eqB W H M L W H M L = true := by simp [eqB]
  have := requal_any W H M W H M L L a b cap cap' w ha hb hl hl
  rw [h] at this; exact this
/-- what came back of a tile, one form for both ends -/
def orT (v : Int) (o : Option (List Int)) : Int := if o.isSome = true then v else 0
def TileAny (X Y Z c : Int) (n : Nat) (C : List Int) (w : World) (e : Ending) (w' : World) : Prop := ∃ (a : Option Addr) (cap : Nat), e = .returned (.tuple #[.agg #[.int .i64 X, .int .i64 Y, .int .i64 Z, .slice a n cap], .int .i64 c]) ∧ SliceIs w' a C ∧ Below w.heap.size w w'
theorem tpost_any {cw ch out : Int} {o : Option (List Int)} {c : Int} {w : World} {e : Ending} {w' : World} {X Y Z : Int} {C : List Int} {n : Nat} (h : CTilePost cw ch out o c w e w') (hX : orT cw o = X) (hY : orT ch o = Y) (hZ : orT out o = Z) (hC : o.getD [] = C) (hn : C.length = n) (hc : o.isSome = true → c = 0) : TileAny X Y Z c n C w e w' := by
  subst hX; subst hY; subst hZ; subst hC; subst hn
  obtain ⟨hb, h2⟩ := h
  rcases o with _ | L
  · exact ⟨none, 0, h2, fun k hk => by simp at hk, hb⟩
  · obtain ⟨g, cap, he, hp⟩ := h2
    have h0 := hc rfl
    subst h0
    exact ⟨_, cap, he, hp.isS, hb⟩
theorem tileO_zero {W H M : Int} {P : List Int} {q f kw kh : Int} {K : List Int} {s out x0 y0 x1 y1 : Int} : (tileO W H M P q f kw kh K s out x0 y0 x1 y1).isSome = true → tileC W H M P q f kw kh K s out x0 y0 x1 y1 = 0 := by
  unfold tileO
  split
  · intro _; assumption
  · intro h; cases h
theorem inside_ok {x0 y0 x1 y1 W H : Int} (hf : fullB x0 y0 x1 y1 = true) (hi : insideB x0 y0 x1 y1 0 0 W H = true) : (0 ≤ x0 ∧ x0 < x1 ∧ x1 ≤ W) ∧ (0 ≤ y0 ∧ y0 < y1 ∧ y1 ≤ H) := by
  obtain ⟨v1, v2, h4⟩ := insideB_t.1 hi
  have he : emptyB x0 y0 x1 y1 = false := by unfold fullB at hf; simp at hf; exact hf.2
  rw [validB_t] at v1
  rw [emptyB_f] at he
  omega
theorem tileO_len {W H M : Int} {P : List Int} {q f kw kh : Int} {K : List Int} {s out x0 y0 x1 y1 : Int} : ((tileO W H M P q f kw kh K s out x0 y0 x1 y1).getD []).length ≤ 4096 := by
  by_cases h : tileC W H M P q f kw kh K s out x0 y0 x1 y1 = 0
  · have e : tileO W H M P q f kw kh K s out x0 y0 x1 y1 = some (convL W H P q f kw kh K s out x0 y0 x1 y1) := by unfold tileO; rw [if_pos h]
    rw [e]
    show (convL W H P q f kw kh K s out x0 y0 x1 y1).length ≤ 4096
    rw [convL_len]
    rcases tile_cases W H M P q f kw kh K s out x0 y0 x1 y1 with ⟨_, c⟩ | ⟨_, _, c⟩ | ⟨hv, _, ⟨h3, c⟩ | ⟨_, ⟨_, c⟩ | ⟨_, _, c⟩ | ⟨hf, hi, _⟩⟩⟩
    · rw [c] at h; omega
    · rw [c] at h; omega
    · rw [c] at h; exact absurd h h3
    · rw [c] at h; omega
    · rw [c] at h; omega
    · obtain ⟨⟨a0, a1, a2⟩, b0, b1, b2⟩ := inside_ok hf hi
      have hp := (sizeB_t.1 (planeB_t.1 hv).1).2.2.1
      have := mul_mono2 (a := x1 - x0) (b := y1 - y0) (c := W) (d := H) (by omega) (by omega) (by omega) (by omega)
      omega
  · have e : tileO W H M P q f kw kh K s out x0 y0 x1 y1 = none := by unfold tileO; rw [if_neg h]
    rw [e]; simp
theorem ctile_u {W H M : Int} {P : List Int} {q f kw kh : Int} {K : List Int} {s out x0 y0 x1 y1 cw ch X Y Z c : Int} {o : Option (List Int)} {C : List Int} {pl kl n : Nat} (ho : tileO W H M P q f kw kh K s out x0 y0 x1 y1 = o) (hX : orT (x1 - x0) o = X) (hY : orT (y1 - y0) o = Y) (hZ : orT out o = Z) (hC : o.getD [] = C) (hn : C.length = n) (hc : tileC W H M P q f kw kh K s out x0 y0 x1 y1 = c) (ep : P.length = pl) (ek : K.length = kl) (hpl : pl ≤ 9223372036854775807) (hkl : kl ≤ 9223372036854775807)
    (a : Option Addr) (cap : Nat) (ka : Option Addr) (kc : Nat) (w : World) (hs : SliceIs w a P) (hk : SliceIs w ka K) :
    Calls Try.prog 20 #[.agg #[.int .i64 W, .int .i64 H, .int .i64 M, .slice a pl cap], .agg #[.int .i64 q, .int .i64 f], .int .i64 kw, .int .i64 kh, .slice ka kl kc, .int .i64 s, .int .i64 out, .agg #[.int .i64 x0, .int .i64 y0, .int .i64 x1, .int .i64 y1]] w (TileAny X Y Z c n C w) := by
  subst ep; subst ho; subst hc
  exact (ctile_any W H M P a cap q f kw kh K ka kl kc s out x0 y0 x1 y1 w hs hpl hk ek hkl).mono fun e w' h => tpost_any h hX hY hZ hC hn tileO_zero
theorem rtile_u {W H M : Int} {P : List Int} {q f kw kh : Int} {K : List Int} {s out x0 y0 x1 y1 cw ch X Y Z c : Int} {o : Option (List Int)} {C : List Int} {pl kl n : Nat} (ho : tileO W H M P q f kw kh K s out x0 y0 x1 y1 = o) (hX : orT (x1 - x0) o = X) (hY : orT (y1 - y0) o = Y) (hZ : orT out o = Z) (hC : o.getD [] = C) (hn : C.length = n) (hc : tileC W H M P q f kw kh K s out x0 y0 x1 y1 = c) (ep : P.length = pl) (ek : K.length = kl) (hpl : pl ≤ 9223372036854775807) (hkl : kl ≤ 9223372036854775807)
    (a : Option Addr) (cap : Nat) (ka : Option Addr) (kc : Nat) (w : World) (hs : SliceIs w a P) (hk : SliceIs w ka K) :
    Calls Try.prog 21 #[.agg #[.int .i64 W, .int .i64 H, .int .i64 M, .slice a pl cap], .agg #[.int .i64 q, .int .i64 f], .int .i64 kw, .int .i64 kh, .slice ka kl kc, .int .i64 s, .int .i64 out, .agg #[.int .i64 x0, .int .i64 y0, .int .i64 x1, .int .i64 y1]] w (TileAny X Y Z c n C w) := by
  subst ep; subst ho; subst hc
  exact (rtile_any W H M P a cap q f kw kh K ka kl kc s out x0 y0 x1 y1 w hs hpl hk ek hkl).mono fun e w' h => tpost_any h hX hY hZ hC hn tileO_zero
end Go.Proofs.Ytibmoibhbgbfoaa
