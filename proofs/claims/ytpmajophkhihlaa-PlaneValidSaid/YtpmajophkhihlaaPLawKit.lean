/- What the walks of the plane statements share: contracts in the form in which they are met, boxes that a region reads. -/
import Derived.Test.YtpmajophkhihlaaPSane
import Derived.Test.YtpmajophkhihlaaPLawPlain
import Derived.Test.YtpmajophkhihlaaList
import Derived.Deep.RegionHeld3
import Derived.Deep.DeepMust
namespace Go.Proofs.Ytpmajophkhihlaa
open Go.ChangeShapes Go.WideShapes Go.ChangeAt Go.RowKit
set_option linter.unusedVariables false
set_option linter.unusedSimpArgs false

theorem rcopy_v (W H M : Int) (L : List Int) (a : Option Addr) (cap : Nat) (w : World) (hs : SliceIs w a L) (l1 : 1 ≤ L.length) (l2 : L.length ≤ 16384) :
    Calls Try.prog 11 #[.agg #[.int .i64 W, .int .i64 H, .int .i64 M, .slice a L.length cap]] w fun e w' => ∃ g c, e = .returned (.agg #[.int .i64 W, .int .i64 H, .int .i64 M, .slice (some ⟨g, 0, none⟩) L.length c]) ∧ PixAt w.heap.size w' g c L ∧ Below w.heap.size w w' := rcopy_any W H M L a cap w hs l1 l2
theorem St.start {a : Option Addr} {cap : Nat} {xs : List Int} {W w : World} (h : TapeIn W w W.heap.size a cap xs 0) : St W W.heap.size a cap xs [] w := ⟨⟨0, h⟩, h.below, En.nil _ _ _⟩
theorem plane_pos {W H M : Int} {L : List Int} (h : planeB W H M L = true) : 1 ≤ L.length := by
  obtain ⟨hs, hl, _⟩ := planeB_t.1 h
  obtain ⟨⟨w1, w2⟩, ⟨h1, h2⟩, _⟩ := sizeB_t.1 hs
  have := (prod_bd w1 w2 h1 h2).1
  omega
theorem within_some (W : World) (p : Nat) (a : Option Addr) (cap : Nat) (xs : List Int) (ww hh : Int) (w : World) (h : TapeSome W w p a cap xs) (h0 : 1 ≤ ww) (h1 : ww ≤ 4611686018427387903) (h2 : 1 ≤ hh) (h3 : hh ≤ 4611686018427387903) :
    Calls Try.prog 12 #[.pointer (some ⟨p, 0, none⟩), .int .i64 ww, .int .i64 hh] w fun e w' =>
      ∃ (x0 y0 x1 y1 : Int), e = .returned (.agg #[.int .i64 x0, .int .i64 y0, .int .i64 x1, .int .i64 y1]) ∧ (0 ≤ x0 ∧ x0 < x1 ∧ x1 ≤ ww) ∧ (0 ≤ y0 ∧ y0 < y1 ∧ y1 ≤ hh) ∧ TapeSome W w' p a cap xs ∧ w.grownBy w' (some p) := by
  obtain ⟨k, hk⟩ := h
  exact (within_any W p a cap xs k ww hh w hk h0 h1 h2 h3).mono fun e w' ⟨x0, y0, x1, y1, k', he, hx, hy, hT, hg⟩ => ⟨x0, y0, x1, y1, he, hx, hy, ⟨k', hT⟩, hg⟩
theorem crop_v {W H M : Int} {L : List Int} {x0 y0 x1 y1 cw ch : Int} {C : List Int} (a : Option Addr) (cap : Nat) (w : World) (hok : cropOk W H M L x0 y0 x1 y1) (hw : x1 - x0 = cw) (hh : y1 - y0 = ch) (hC : cropL W L x0 y0 x1 y1 = C) (hs : SliceIs w a L) (hcap : L.length ≤ cap ∧ cap ≤ maxLen) :
    Calls Try.prog 13 #[.agg #[.int .i64 W, .int .i64 H, .int .i64 M, .slice a L.length cap], .agg #[.int .i64 x0, .int .i64 y0, .int .i64 x1, .int .i64 y1]] w
      fun e w' => ∃ g c, e = .returned (.tuple #[.agg #[.int .i64 cw, .int .i64 ch, .int .i64 M, .slice (some ⟨g, 0, none⟩) C.length c], .bool true]) ∧ PixAt w.heap.size w' g c C ∧ Below w.heap.size w w' := by
  subst hw; subst hh; subst hC
  exact (pcrop_any W H M L a cap x0 y0 x1 y1 w hs hcap.1 hcap.2).mono fun e w' h => post_some h (crop_some hok)
theorem blit_v {W H M : Int} {L : List Int} {W2 H2 M2 : Int} {K : List Int} {x y : Int} {R : List Int} (a : Option Addr) (cap : Nat) (a2 : Option Addr) (cap2 : Nat) (w : World) (hv : planeB W H M L = true) (hv2 : planeB W2 H2 M2 K = true) (hp : placeOk W H W2 H2 x y) (hu : Under M K K.length) (hR : blitL W L W2 K x y = R)
    (hs : SliceIs w a L) (hs2 : SliceIs w a2 K) (hcap : L.length ≤ cap ∧ cap ≤ maxLen) (hcap2 : K.length ≤ cap2 ∧ cap2 ≤ maxLen) :
    Calls Try.prog 14 #[.agg #[.int .i64 W, .int .i64 H, .int .i64 M, .slice a L.length cap], .agg #[.int .i64 W2, .int .i64 H2, .int .i64 M2, .slice a2 K.length cap2], .int .i64 x, .int .i64 y] w
      fun e w' => ∃ g c, e = .returned (.tuple #[.agg #[.int .i64 W, .int .i64 H, .int .i64 M, .slice (some ⟨g, 0, none⟩) R.length c], .bool true]) ∧ PixAt w.heap.size w' g c R ∧ Below w.heap.size w w' := by
  subst hR
  exact (pblit_any W H M L a cap W2 H2 M2 K a2 cap2 x y w hs hs2 hcap.1 hcap.2 hcap2.1 hcap2.2).mono fun e w' h => post_some h (blit_some hv hv2 hp hu)
theorem equal_self (W H M : Int) (L : List Int) (a b : Option Addr) (cap cap' : Nat) (w : World) (ha : SliceIs w a L) (hb : SliceIs w b L) (hl : L.length ≤ 9223372036854775807) :
    Calls Try.prog 15 #[.agg #[.int .i64 W, .int .i64 H, .int .i64 M, .slice a L.length cap], .agg #[.int .i64 W, .int .i64 H, .int .i64 M, .slice b L.length cap']] w (TestPost true w) := by
  have h : eqB W H M L W H M L = true := by simp [eqB]
  have := pequal_any W H M W H M L L a b cap cap' w ha hb hl hl
  rw [h] at this; exact this
theorem blit_n {W H M : Int} {L : List Int} {W2 H2 M2 : Int} {K : List Int} {x y : Int} {R : List Int} {n n2 : Nat} (a : Option Addr) (cap : Nat) (a2 : Option Addr) (cap2 : Nat) (w : World) (hn : L.length = n) (hn2 : K.length = n2) (hv : planeB W H M L = true) (hv2 : planeB W2 H2 M2 K = true) (hp : placeOk W H W2 H2 x y) (hu : Under M K K.length) (hR : blitL W L W2 K x y = R)
    (hs : SliceIs w a L) (hs2 : SliceIs w a2 K) (hcap : L.length ≤ cap ∧ cap ≤ maxLen) (hcap2 : K.length ≤ cap2 ∧ cap2 ≤ maxLen) :
    Calls Try.prog 14 #[.agg #[.int .i64 W, .int .i64 H, .int .i64 M, .slice a n cap], .agg #[.int .i64 W2, .int .i64 H2, .int .i64 M2, .slice a2 n2 cap2], .int .i64 x, .int .i64 y] w
      fun e w' => ∃ g c, e = .returned (.tuple #[.agg #[.int .i64 W, .int .i64 H, .int .i64 M, .slice (some ⟨g, 0, none⟩) n c], .bool true]) ∧ PixAt w.heap.size w' g c R ∧ Below w.heap.size w w' := by
  subst hn; subst hn2
  have hRl : R.length = L.length := by rw [← hR, blitL_len]
  have := blit_v a cap a2 cap2 w hv hv2 hp hu hR hs hs2 hcap hcap2
  rw [hRl] at this; exact this
theorem crop_n {W H M : Int} {L : List Int} {x0 y0 x1 y1 cw ch : Int} {C : List Int} {n n2 : Nat} (a : Option Addr) (cap : Nat) (w : World) (hn : L.length = n) (hn2 : C.length = n2) (hok : cropOk W H M L x0 y0 x1 y1) (hw : x1 - x0 = cw) (hh : y1 - y0 = ch) (hC : cropL W L x0 y0 x1 y1 = C) (hs : SliceIs w a L) (hcap : L.length ≤ cap ∧ cap ≤ maxLen) :
    Calls Try.prog 13 #[.agg #[.int .i64 W, .int .i64 H, .int .i64 M, .slice a n cap], .agg #[.int .i64 x0, .int .i64 y0, .int .i64 x1, .int .i64 y1]] w
      fun e w' => ∃ g c, e = .returned (.tuple #[.agg #[.int .i64 cw, .int .i64 ch, .int .i64 M, .slice (some ⟨g, 0, none⟩) n2 c], .bool true]) ∧ PixAt w.heap.size w' g c C ∧ Below w.heap.size w w' := by
  subst hn; subst hn2
  exact crop_v a cap w hok hw hh hC hs hcap
theorem equal_n {W H M : Int} {L : List Int} {n : Nat} (a b : Option Addr) (cap cap' : Nat) (w : World) (hn : L.length = n) (ha : SliceIs w a L) (hb : SliceIs w b L) (hl : n ≤ 9223372036854775807) :
    Calls Try.prog 15 #[.agg #[.int .i64 W, .int .i64 H, .int .i64 M, .slice a n cap], .agg #[.int .i64 W, .int .i64 H, .int .i64 M, .slice b n cap']] w (TestPost true w) := by
  subst hn; exact equal_self W H M L a b cap cap' w ha hb hl
/-- four cells of a block -/
abbrev C4 (w' : World) (b : Nat) (v0 v1 v2 v3 : Value) : Prop := w'.cell? ⟨b, 0, none⟩ = some v0 ∧ w'.cell? ⟨b, 1, none⟩ = some v1 ∧ w'.cell? ⟨b, 2, none⟩ = some v2 ∧ w'.cell? ⟨b, 3, none⟩ = some v3
/-- three boxes that are read, and hidden all the rest -/
abbrev Box3 (W : World) (p : Nat) (a : Option Addr) (cap : Nat) (xs : List Int) (l : List Th) (b1 : Nat) (s0 s1 s2 s3 : Value) (b2 : Nat) (t0 t1 t2 t3 : Value) (b3 : Nat) (u0 u1 u2 u3 : Value) (w' : World) : Prop :=
  Hid (St W p a cap xs l w' ∧ Th.box b1 s0 s1 s2 s3 ∈ l ∧ Th.box b2 t0 t1 t2 t3 ∈ l ∧ Th.box b3 u0 u1 u2 u3 ∈ l) ∧ C4 w' b1 s0 s1 s2 s3 ∧ C4 w' b2 t0 t1 t2 t3 ∧ C4 w' b3 u0 u1 u2 u3
section
variable {W : World} {p : Nat} {a : Option Addr} {cap : Nat} {xs : List Int} {l : List Th} {b1 : Nat} {s0 s1 s2 s3 : Value} {b2 : Nat} {t0 t1 t2 t3 : Value} {b3 : Nat} {u0 u1 u2 u3 : Value}
theorem box3_of {w' : World} (h : St W p a cap xs l w') (h1 : Th.box b1 s0 s1 s2 s3 ∈ l) (h2 : Th.box b2 t0 t1 t2 t3 ∈ l) (h3 : Th.box b3 u0 u1 u2 u3 ∈ l) : Box3 W p a cap xs l b1 s0 s1 s2 s3 b2 t0 t1 t2 t3 b3 u0 u1 u2 u3 w' :=
  ⟨Lib.hid ⟨h, h1, h2, h3⟩, h.en.box b1 h1, h.en.box b2 h2, h.en.box b3 h3⟩
theorem box3_below {w1 w2 : World} (hb : Below w1.heap.size w1 w2) (h : Box3 W p a cap xs l b1 s0 s1 s2 s3 b2 t0 t1 t2 t3 b3 u0 u1 u2 u3 w1) : Box3 W p a cap xs l b1 s0 s1 s2 s3 b2 t0 t1 t2 t3 b3 u0 u1 u2 u3 w2 :=
  box3_of (h.1.out.1.call hb) h.1.out.2.1 h.1.out.2.2.1 h.1.out.2.2.2
theorem box3_put {w5 : World} {N q : Nat} (hN : ∀ x ∈ l, x.blk < N) (hq : N ≤ q) (hp : p < N ∧ W.heap.size ≤ N) (h : Box3 W p a cap xs l b1 s0 s1 s2 s3 b2 t0 t1 t2 t3 b3 u0 u1 u2 u3 w5) (v0 v1 v2 v3 : Value) : Box3 W p a cap xs l b1 s0 s1 s2 s3 b2 t0 t1 t2 t3 b3 u0 u1 u2 u3 (put4 w5 q v0 v1 v2 v3) :=
  box3_of ⟨h.1.out.1.tape.put (by omega) (by omega) _ _ _ _, bput4 h.1.out.1.below (by omega) _ _ _ _, h.1.out.1.en.row (gput4 (gref w5 (some q)) (.inr rfl) _ _ _ _) (fun x hx => by have := hN x hx; omega)⟩ h.1.out.2.1 h.1.out.2.2.1 h.1.out.2.2.2
end
theorem plane_set {W H M : Int} {K : List Int} {k : Nat} {x : Int} (h : planeB W H M K = true) (hk : k < K.length) (h0 : 0 ≤ x) (h1 : x ≤ M) : planeB W H M (K.set k x) = true := by
  obtain ⟨hs, hl, hp⟩ := planeB_t.1 h
  refine planeB_all hs (by rw [List.length_set]; exact hl) (fun j hj => ?_)
  rw [List.length_set] at hj
  by_cases e : j = k
  · subst e; simp [List.getD_eq_getElem?_getD, hj]; exact ⟨h0, h1⟩
  · have := hp j hj
    simpa [List.getD_eq_getElem?_getD, Ne.symm e] using this
theorem rcontains_is {a b c d x y : Int} {v : Bool} (h : containsB a b c d x y = v) (w : World) : Calls Try.prog 31 #[.agg #[.int .i64 a, .int .i64 b, .int .i64 c, .int .i64 d], .int .i64 x, .int .i64 y] w (TestPost v w) := h ▸ rcontains_any a b c d x y w
/-- a pixel beside the place stays -/
theorem blit_out {W H M : Int} {L : List Int} {M2 : Int} {K : List Int} {x0 y0 x1 y1 : Int} (hv : planeB W H M L = true) (hv2 : planeB (x1 - x0) (y1 - y0) M2 K = true) (hp : placeOk W H (x1 - x0) (y1 - y0) x0 y0) {j : Nat} (hj : j < L.length) (hn : containsB x0 y0 x1 y1 ((j : Int) % W) ((j : Int) / W) = false) : (blitL W L (x1 - x0) K x0 y0).getD j 0 = L.getD j 0 := by
  rcases blit_in hv hv2 hp hj with ⟨⟨i0, i1, i2, i3⟩, _⟩ | ⟨_, e⟩
  · exfalso
    obtain ⟨g1, g2, g3, g4⟩ := hp
    obtain ⟨⟨c1, c2⟩, ⟨d1, d2⟩, _⟩ := sizeB_t.1 (planeB_t.1 hv2).1
    obtain ⟨⟨w1, w2⟩, ⟨h1, h2⟩, _⟩ := sizeB_t.1 (planeB_t.1 hv).1
    have : containsB x0 y0 x1 y1 ((j : Int) % W) ((j : Int) / W) = true := containsB_t.2 ⟨by rw [validB_t]; omega, by omega, by omega, by omega, by omega⟩
    rw [this] at hn; cases hn
  · exact e
theorem run_rem (j : Nat) (c : Int) (hc : 0 < c) (hj : j ≤ 100000) (hc2 : c ≤ 100000) (w : World) : (binOp .rem 3 (.int .i64 (j : Int)) (.int .i64 c)).run Try.prog w = .ok (.int .i64 ((j : Int) % c)) w := by
  have hz : ¬ c = 0 := by omega
  have t1 : (j : Int).tmod c = j % c := Int.tmod_eq_emod_of_nonneg (by omega)
  have e0 := Int.emod_nonneg (j : Int) (show c ≠ 0 by omega)
  have e1 := Int.emod_lt_of_pos (j : Int) (show 0 < c by omega)
  have t4 : IntKind.i64.wrap ((j : Int) % c) = (j : Int) % c := IntWalk.i64_in _ (by omega)
  go_simp
theorem run_quo (j : Nat) (c : Int) (hc : 0 < c) (hj : j ≤ 100000) (hc2 : c ≤ 100000) (w : World) : (binOp .quo 3 (.int .i64 (j : Int)) (.int .i64 c)).run Try.prog w = .ok (.int .i64 ((j : Int) / c)) w := by
  have hz : ¬ c = 0 := by omega
  have t1 : (j : Int).tdiv c = j / c := Int.tdiv_eq_ediv_of_nonneg (by omega)
  have d0 := Int.ediv_nonneg (show 0 ≤ (j : Int) by omega) (show 0 ≤ c by omega)
  have d1 : (j : Int) / c ≤ j := Int.ediv_le_self _ (by omega)
  have t4 : IntKind.i64.wrap ((j : Int) / c) = (j : Int) / c := IntWalk.i64_in _ (by omega)
  go_simp
/-- four boxes and two pixels that are read, and hidden all the rest -/
abbrev Box4P (W : World) (p : Nat) (a : Option Addr) (cap : Nat) (xs : List Int) (l : List Th) (b1 : Nat) (s0 s1 s2 s3 : Value) (b2 : Nat) (t0 t1 t2 t3 : Value) (b3 : Nat) (u0 u1 u2 u3 : Value) (b4 : Nat) (y0 y1 y2 y3 : Value) (g1 c1 : Nat) (L1 : List Int) (g2 c2 : Nat) (L2 : List Int) (j : Nat) (z1 z2 : Int) (w' : World) : Prop :=
  Hid ((St W p a cap xs l w' ∧ (Th.box b1 s0 s1 s2 s3 ∈ l ∧ Th.box b2 t0 t1 t2 t3 ∈ l ∧ Th.box b3 u0 u1 u2 u3 ∈ l ∧ Th.box b4 y0 y1 y2 y3 ∈ l) ∧ (Th.pix g1 c1 L1 ∈ l ∧ Th.pix g2 c2 L2 ∈ l)) ∧ (j < L1.length ∧ L1.getD j 0 = z1) ∧ (j < L2.length ∧ L2.getD j 0 = z2)) ∧
    C4 w' b1 s0 s1 s2 s3 ∧ C4 w' b2 t0 t1 t2 t3 ∧ C4 w' b3 u0 u1 u2 u3 ∧ C4 w' b4 y0 y1 y2 y3 ∧ w'.cell? ⟨g1, j, none⟩ = some (.int .i64 z1) ∧ w'.cell? ⟨g2, j, none⟩ = some (.int .i64 z2)
section
variable {W : World} {p : Nat} {a : Option Addr} {cap : Nat} {xs : List Int} {l : List Th} {b1 : Nat} {s0 s1 s2 s3 : Value} {b2 : Nat} {t0 t1 t2 t3 : Value} {b3 : Nat} {u0 u1 u2 u3 : Value} {b4 : Nat} {y0 y1 y2 y3 : Value} {g1 c1 : Nat} {L1 : List Int} {g2 c2 : Nat} {L2 : List Int} {j : Nat} {z1 z2 : Int}
theorem box4P_of {w' : World} (h : St W p a cap xs l w') (hb : Th.box b1 s0 s1 s2 s3 ∈ l ∧ Th.box b2 t0 t1 t2 t3 ∈ l ∧ Th.box b3 u0 u1 u2 u3 ∈ l ∧ Th.box b4 y0 y1 y2 y3 ∈ l) (hp : Th.pix g1 c1 L1 ∈ l ∧ Th.pix g2 c2 L2 ∈ l) (h1 : j < L1.length ∧ L1.getD j 0 = z1) (h2 : j < L2.length ∧ L2.getD j 0 = z2) :
    Box4P W p a cap xs l b1 s0 s1 s2 s3 b2 t0 t1 t2 t3 b3 u0 u1 u2 u3 b4 y0 y1 y2 y3 g1 c1 L1 g2 c2 L2 j z1 z2 w' :=
  ⟨Lib.hid ⟨⟨h, hb, hp⟩, h1, h2⟩, h.en.box b1 hb.1, h.en.box b2 hb.2.1, h.en.box b3 hb.2.2.1, h.en.box b4 hb.2.2.2, by rw [(h.en.pix g1 c1 hp.1).cell h1.1, h1.2], by rw [(h.en.pix g2 c2 hp.2).cell h2.1, h2.2]⟩
theorem box4P_below {w1 w2 : World} (hb : Below w1.heap.size w1 w2) (h : Box4P W p a cap xs l b1 s0 s1 s2 s3 b2 t0 t1 t2 t3 b3 u0 u1 u2 u3 b4 y0 y1 y2 y3 g1 c1 L1 g2 c2 L2 j z1 z2 w1) : Box4P W p a cap xs l b1 s0 s1 s2 s3 b2 t0 t1 t2 t3 b3 u0 u1 u2 u3 b4 y0 y1 y2 y3 g1 c1 L1 g2 c2 L2 j z1 z2 w2 :=
  box4P_of (h.1.out.1.1.call hb) h.1.out.1.2.1 h.1.out.1.2.2 h.1.out.2.1 h.1.out.2.2
end
theorem En.drop {base : Nat} {p : Option Nat} {l : List Th} {w : World} (h : En base p l w) (n : Nat) : En base p (l.drop n) w :=
  ⟨fun y hy => h.ok y (List.mem_of_mem_drop hy), fun y hy => h.far y (List.mem_of_mem_drop hy), h.nd.sublist (List.drop_sublist n l)⟩
theorem St.drop {W : World} {p : Nat} {a : Option Addr} {cap : Nat} {xs : List Int} {l : List Th} {w : World} (h : St W p a cap xs l w) (n : Nat) : St W p a cap xs (l.drop n) w := ⟨h.tape, h.below, h.en.drop n⟩
theorem St.setbox {W : World} {p : Nat} {a : Option Addr} {cap : Nat} {xs : List Int} {l : List Th} {w : World} {b : Nat} {v0 v1 v2 v3 : Value} (h : St W p a cap xs (.box b v0 v1 v2 v3 :: l) w) (u0 u1 u2 u3 : Value) : St W p a cap xs (.box b u0 u1 u2 u3 :: l) (put4 w b u0 u1 u2 u3) := by
  have hf := h.en.far _ (List.mem_cons_self ..)
  have hf2 : ¬ b = p := by simpa [Th.blk] using hf.2
  exact St.put ⟨h.tape, h.below, h.en.tail⟩ (Box4.op (h.en.ok _ (List.mem_cons_self ..))) hf.1 hf2 (fun x hx e => h.en.head x hx e.symm) _ _ _ _
/-- what came back of a plane and a test, one form for both ends -/
def orZ (v : Int) (o : Option (List Int)) : Int := if o.isSome = true then v else 0
theorem post_any {W H M : Int} {o : Option (List Int)} {w : World} {e : Ending} {w' : World} {X Y Z : Int} {K : List Int} {v : Bool} (h : PlanePost W H M o w e w') (hX : orZ W o = X) (hY : orZ H o = Y) (hZ : orZ M o = Z) (hK : o.getD [] = K) (hv : o.isSome = v) :
    ∃ a cap, e = .returned (.tuple #[.agg #[.int .i64 X, .int .i64 Y, .int .i64 Z, .slice a K.length cap], .bool v]) ∧ SliceIs w' a K ∧ Below w.heap.size w w' := by
  subst hX; subst hY; subst hZ; subst hK; subst hv
  rcases o with _ | L
  · obtain ⟨he, hb⟩ := post_none h rfl
    exact ⟨none, 0, he, fun k hk => by simp at hk, hb⟩
  · obtain ⟨g, cap, he, hp, hb⟩ := post_some h rfl
    exact ⟨_, cap, he, hp.isS, hb⟩
theorem cropO_len {W H M : Int} {L : List Int} {x0 y0 x1 y1 : Int} : ((cropO W H M L x0 y0 x1 y1).getD []).length ≤ 4096 := by
  unfold cropO
  split
  · rename_i h; exact plane_len (crop_plane h)
  · simp
theorem blitO_len {W H M : Int} {L : List Int} {W2 H2 M2 : Int} {K : List Int} {x y : Int} : ((blitO W H M L W2 H2 M2 K x y).getD []).length ≤ 4096 := by
  unfold blitO
  split
  · rename_i h; simp only [Option.getD_some, blitL_len]; exact plane_len h.1.1
  · simp
theorem requal_self (W H M : Int) (L : List Int) (a b : Option Addr) (cap cap' : Nat) (w : World) (ha : SliceIs w a L) (hb : SliceIs w b L) (hl : L.length ≤ 4096) :
    Calls Try.prog 21 #[.agg #[.int .i64 W, .int .i64 H, .int .i64 M, .slice a L.length cap], .agg #[.int .i64 W, .int .i64 H, .int .i64 M, .slice b L.length cap']] w (TestPost true w) := by
  have h : eqB W H M L W H M L = true := by simp [eqB]
  have := requal_any W H M W H M L L a b cap cap' w ha hb (by omega) (by omega)
  rw [h] at this; exact this
/-- while a pixel is drawn and stored -/
abbrev FillS (W : World) (p : Nat) (a : Option Addr) (cap : Nat) (xs : List Int) (l : List Th) (g c n : Nat) (bp : Nat) (M : Int) (bq k : Nat) (w' : World) : Prop :=
  Hid (∃ K u0 u1 u3 t0 t1 t2, K.length = n ∧ k < n ∧ St W p a cap xs (.pix g c K :: l) w' ∧ Th.box bp u0 u1 (.int .i64 M) u3 ∈ l ∧ Th.box bq t0 t1 t2 (.slice (some ⟨g, 0, none⟩) n c) ∈ l) ∧
    w'.cell? ⟨bp, 2, none⟩ = some (.int .i64 M) ∧ w'.cell? ⟨bq, 3, none⟩ = some (.slice (some ⟨g, 0, none⟩) n c) ∧ w'.cell? ⟨g, k, none⟩ = some (valAt w' g k) ∧ w'.frozen? ⟨g, k, none⟩ = false
section
variable {W : World} {p : Nat} {a : Option Addr} {cap : Nat} {xs : List Int} {l : List Th} {g c n : Nat} {bp : Nat} {M : Int} {bq k : Nat}
theorem fillS_of {w' : World} {K : List Int} {u0 u1 u3 t0 t1 t2 : Value} (h : St W p a cap xs (.pix g c K :: l) w') (hn : K.length = n) (hk : k < n) (hp : Th.box bp u0 u1 (.int .i64 M) u3 ∈ l) (hq : Th.box bq t0 t1 t2 (.slice (some ⟨g, 0, none⟩) n c) ∈ l) : FillS W p a cap xs l g c n bp M bq k w' := by
  have hpx := h.en.pix g c (L := K) (List.mem_cons_self ..)
  exact ⟨Lib.hid ⟨K, u0, u1, u3, t0, t1, t2, hn, hk, h, hp, hq⟩, (h.en.box bp (List.mem_cons_of_mem _ hp)).2.2.1, (h.en.box bq (List.mem_cons_of_mem _ hq)).2.2.2, szS_val (hpx.cell (by omega)), hpx.frozen k⟩
theorem fillS_call {w1 w2 : World} (hT : TapeSome W w2 p a cap xs) (hg : w1.grownBy w2 (some p)) (h : FillS W p a cap xs l g c n bp M bq k w1) : FillS W p a cap xs l g c n bp M bq k w2 := by
  obtain ⟨K, u0, u1, u3, t0, t1, t2, hn, hk, hS, hp, hq⟩ := h.1.out
  exact fillS_of (hS.draw hT hg) hn hk hp hq
theorem fillS_store {w1 : World} (h : FillS W p a cap xs l g c n bp M bq k w1) (v : Int) : FillS W p a cap xs l g c n bp M bq k (w1.setCell ⟨g, k, none⟩ (.int .i64 v)) := by
  obtain ⟨K, u0, u1, u3, t0, t1, t2, hn, hk, hS, hp, hq⟩ := h.1.out
  exact fillS_of (hS.store k v) (by rw [List.length_set]; exact hn) hk hp hq
theorem fillS_tape {w1 : World} (h : FillS W p a cap xs l g c n bp M bq k w1) : TapeSome W w1 p a cap xs := by
  obtain ⟨K, u0, u1, u3, t0, t1, t2, hn, hk, hS, hp, hq⟩ := h.1.out
  exact hS.tape
end
end Go.Proofs.Ytpmajophkhihlaa
