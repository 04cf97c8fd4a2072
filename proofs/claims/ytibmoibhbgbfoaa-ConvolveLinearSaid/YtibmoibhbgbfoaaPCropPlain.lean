/- Crops as plain lists: what is cropped, and when. Blits as plain lists: what is blitted, and when. The contract of the reference's Copy: the same plane, its pixels in a block of their own; planes handed back out of a variable. -/
import Derived.Test.YtibmoibhbgbfoaaPPlain
import Derived.Test.YtibmoibhbgbfoaaRPlain
import Derived.Test.YtibmoibhbgbfoaaAgg
namespace Go.Proofs.Ytibmoibhbgbfoaa
set_option linter.unusedVariables false

/-- the pixel of place j of a crop -/
def cropAt (W : Int) (L : List Int) (x0 y0 cw : Int) (j : Nat) : Int := L.getD ((y0 + (j : Int) / cw) * W + (x0 + (j : Int) % cw)).toNat 0
def cropL (W : Int) (L : List Int) (x0 y0 x1 y1 : Int) : List Int := (List.range ((x1 - x0) * (y1 - y0)).toNat).map (cropAt W L x0 y0 (x1 - x0))
def cropOk (W H M : Int) (L : List Int) (x0 y0 x1 y1 : Int) : Prop := planeB W H M L = true ∧ emptyB x0 y0 x1 y1 = false ∧ insideB x0 y0 x1 y1 0 0 W H = true
instance (W H M : Int) (L : List Int) (x0 y0 x1 y1 : Int) : Decidable (cropOk W H M L x0 y0 x1 y1) := by unfold cropOk; infer_instance
def cropO (W H M : Int) (L : List Int) (x0 y0 x1 y1 : Int) : Option (List Int) := if cropOk W H M L x0 y0 x1 y1 then some (cropL W L x0 y0 x1 y1) else none
theorem cropL_len {W : Int} {L : List Int} {x0 y0 x1 y1 : Int} : (cropL W L x0 y0 x1 y1).length = ((x1 - x0) * (y1 - y0)).toNat := by simp [cropL]
theorem cropL_at {W : Int} {L : List Int} {x0 y0 x1 y1 : Int} {j : Nat} (h : j < ((x1 - x0) * (y1 - y0)).toNat) : (cropL W L x0 y0 x1 y1).getD j 0 = cropAt W L x0 y0 (x1 - x0) j := by
  simp [cropL, List.getD_eq_getElem?_getD, h]
theorem cropAt_place {W : Int} {L : List Int} {x0 y0 cw : Int} {j y x : Nat} (hc : (x : Int) < cw) (hj : (j : Int) = y * cw + x) : cropAt W L x0 y0 cw j = L.getD ((y0 + y) * W + (x0 + x)).toNat 0 := by
  unfold cropAt
  have e1 : (j : Int) / cw = y := by
    rw [hj, Int.add_comm, Int.add_mul_ediv_right _ _ (by omega), Int.ediv_eq_zero_of_lt (by omega) hc]; omega
  have e2 : (j : Int) % cw = x := by
    rw [hj, Int.add_comm, Int.add_mul_emod_self_right]; exact Int.emod_eq_of_lt (by omega) hc
  rw [e1, e2]
/-- where a crop is possible -/
theorem cropOk_bd {W H M : Int} {L : List Int} {x0 y0 x1 y1 : Int} (h : cropOk W H M L x0 y0 x1 y1) : (0 ≤ x0 ∧ x0 < x1 ∧ x1 ≤ W) ∧ (0 ≤ y0 ∧ y0 < y1 ∧ y1 ≤ H) := by
  obtain ⟨h1, h2, h3⟩ := h
  obtain ⟨v1, v2, h4⟩ := insideB_t.1 h3
  rw [validB_t] at v1
  rw [emptyB_f] at h2
  omega
theorem mul_mono2 {a b c d : Int} (h1 : 0 ≤ a) (h2 : a ≤ c) (h3 : 0 ≤ b) (h4 : b ≤ d) : a * b ≤ c * d := Int.mul_le_mul h2 h4 h3 (by omega)
theorem cropOk_size {W H M : Int} {L : List Int} {x0 y0 x1 y1 : Int} (h : cropOk W H M L x0 y0 x1 y1) : sizeB (x1 - x0) (y1 - y0) M = true := by
  obtain ⟨⟨a0, a1, a2⟩, b0, b1, b2⟩ := cropOk_bd h
  obtain ⟨hz, _, _⟩ := planeB_t.1 h.1
  obtain ⟨⟨w1, w2⟩, ⟨h1, h2⟩, hp, m1, m2⟩ := sizeB_t.1 hz
  have := mul_mono2 (a := x1 - x0) (b := y1 - y0) (c := W) (d := H) (by omega) (by omega) (by omega) (by omega)
  exact sizeB_t.2 ⟨⟨by omega, by omega⟩, ⟨by omega, by omega⟩, by omega, m1, m2⟩
/-- a list that is filled from the front -/
theorem agree_set {K C : List Int} {m : Nat} {v : Int} (h : Agree K C m) (hm : m < K.length) (hv : v = C.getD m 0) : Agree (K.set m v) C (m + 1) := by
  intro j hj
  by_cases e : j = m
  · subst e
    simp [List.getD_eq_getElem?_getD, hm, hv]
  · rw [← h j (by omega)]
    simp [List.getD_eq_getElem?_getD, Ne.symm e]
set_option linter.unusedVariables false

/-- the pixel of place j when the first m pixels of the second plane have been laid -/
def blitAt (W : Int) (L : List Int) (W2 : Int) (K : List Int) (x y : Int) (m : Nat) (j : Nat) : Int :=
  if 0 ≤ (j : Int) % W - x ∧ (j : Int) % W - x < W2 ∧ 0 ≤ (j : Int) / W - y ∧ ((j : Int) / W - y) * W2 + ((j : Int) % W - x) < m
  then K.getD (((j : Int) / W - y) * W2 + ((j : Int) % W - x)).toNat 0 else L.getD j 0
/-- a list that the first m pixels have been laid into -/
def Laid (W : Int) (L : List Int) (W2 : Int) (K : List Int) (x y : Int) (m : Nat) (R : List Int) : Prop := R.length = L.length ∧ ∀ j, j < L.length → R.getD j 0 = blitAt W L W2 K x y m j
def blitL (W : Int) (L : List Int) (W2 : Int) (K : List Int) (x y : Int) : List Int := (List.range L.length).map (blitAt W L W2 K x y K.length)
/-- no pixel is greater than a Max -/
def Under (M : Int) (K : List Int) (n : Nat) : Prop := ∀ k, k < n → K.getD k 0 ≤ M
instance (M : Int) (K : List Int) (n : Nat) : Decidable (Under M K n) := by unfold Under; infer_instance
def placeOk (W H : Int) (W2 H2 : Int) (x y : Int) : Prop := 0 ≤ x ∧ 0 ≤ y ∧ x ≤ W - W2 ∧ y ≤ H - H2
instance (W H W2 H2 x y : Int) : Decidable (placeOk W H W2 H2 x y) := by unfold placeOk; infer_instance
def blitO (W H M : Int) (L : List Int) (W2 H2 M2 : Int) (K : List Int) (x y : Int) : Option (List Int) :=
  if (planeB W H M L = true ∧ planeB W2 H2 M2 K = true ∧ placeOk W H W2 H2 x y) ∧ Under M K K.length then some (blitL W L W2 K x y) else none
theorem laid_zero {W : Int} {L : List Int} {W2 : Int} {K : List Int} {x y : Int} (hw : 0 < W2) : Laid W L W2 K x y 0 L := by
  refine ⟨rfl, fun j hj => ?_⟩
  unfold blitAt
  rw [if_neg]
  rintro ⟨h1, h2, h3, h4⟩
  have := Int.mul_nonneg h3 (show 0 ≤ W2 by omega)
  omega
theorem laid_done {W : Int} {L : List Int} {W2 : Int} {K : List Int} {x y : Int} {R : List Int} (h : Laid W L W2 K x y K.length R) : R = blitL W L W2 K x y := by
  obtain ⟨hl, h⟩ := h
  apply List.ext_getElem (by simp [blitL, hl])
  intro j h1 h2
  have := h j (by omega)
  simpa [blitL, List.getD_eq_getElem?_getD, h1] using this
theorem cell_uniq {W2 u v u' v' : Int} (h1 : 0 ≤ u) (h2 : u < W2) (h3 : 0 ≤ u') (h4 : u' < W2) (h : v' * W2 + u' = v * W2 + u) : v' = v ∧ u' = u := by
  have e1 : (v' * W2 + u') / W2 = v' := by rw [Int.add_comm, Int.add_mul_ediv_right _ _ (by omega), Int.ediv_eq_zero_of_lt h3 h4]; omega
  have e2 : (v * W2 + u) / W2 = v := by rw [Int.add_comm, Int.add_mul_ediv_right _ _ (by omega), Int.ediv_eq_zero_of_lt h1 h2]; omega
  have e3 : v' = v := by rw [← e1, h, e2]
  subst e3
  omega
/-- one more pixel is laid -/
theorem laid_step {W : Int} {L : List Int} {W2 : Int} {K : List Int} {x y : Int} {v u m D : Nat} {R : List Int} (h : Laid W L W2 K x y m R) (hu : (u : Int) < W2) (hx : 0 ≤ x) (hy : 0 ≤ y) (hxw : x + W2 ≤ W)
    (hm : (m : Int) = v * W2 + u) (hD : (D : Int) = (v + y) * W + (u + x)) (hDl : D < L.length) : Laid W L W2 K x y (m + 1) (R.set D (K.getD m 0)) := by
  obtain ⟨hl, h⟩ := h
  have d1 : (D : Int) / W = v + y := by rw [hD, Int.add_comm, Int.add_mul_ediv_right _ _ (by omega), Int.ediv_eq_zero_of_lt (by omega) (by omega)]; omega
  have d2 : (D : Int) % W = u + x := by rw [hD, Int.add_comm, Int.add_mul_emod_self_right]; exact Int.emod_eq_of_lt (by omega) (by omega)
  refine ⟨by rw [List.length_set]; exact hl, fun j hj => ?_⟩
  by_cases e : j = D
  · subst e
    have : (R.set j (K.getD m 0)).getD j 0 = K.getD m 0 := by simp [List.getD_eq_getElem?_getD, show j < R.length by omega]
    rw [this]
    unfold blitAt
    rw [d1, d2, show (v : Int) + y - y = v by omega, show (u : Int) + x - x = u by omega, ← hm, if_pos (by omega)]
    simp
  · have e1 : (R.set D (K.getD m 0)).getD j 0 = R.getD j 0 := by simp [List.getD_eq_getElem?_getD, Ne.symm e]
    rw [e1, h j hj]
    unfold blitAt
    by_cases c : 0 ≤ (j : Int) % W - x ∧ (j : Int) % W - x < W2 ∧ 0 ≤ (j : Int) / W - y ∧ ((j : Int) / W - y) * W2 + ((j : Int) % W - x) < m
    · rw [if_pos c, if_pos ⟨c.1, c.2.1, c.2.2.1, by have := c.2.2.2; omega⟩]
    · rw [if_neg c, if_neg]
      rintro ⟨c1, c2, c3, c4⟩
      have c5 : ((j : Int) / W - y) * W2 + ((j : Int) % W - x) = v * W2 + u := by omega
      obtain ⟨q1, q2⟩ := cell_uniq (by omega) hu c1 c2 c5
      have hj2 : (j : Int) = D := by
        have := Int.emod_add_mul_ediv (j : Int) W
        have a1 : (j : Int) / W = v + y := by omega
        have a2 : (j : Int) % W = u + x := by omega
        rw [a1, a2, Int.mul_comm] at this
        omega
      exact e (by omega)
theorem under_step {M : Int} {K : List Int} {k : Nat} (h : Under M K k) (h1 : K.getD k 0 ≤ M) : Under M K (k + 1) := by
  intro j hj
  by_cases e : j = k
  · subst e; exact h1
  · exact h j (by omega)
theorem blit_none {W H M : Int} {L : List Int} {W2 H2 M2 : Int} {K : List Int} {x y : Int} (h : planeB W H M L = false ∨ planeB W2 H2 M2 K = false ∨ ¬ placeOk W H W2 H2 x y ∨ ∃ k, k < K.length ∧ M < K.getD k 0) : blitO W H M L W2 H2 M2 K x y = none := by
  unfold blitO
  rw [if_neg]
  rintro ⟨⟨h1, h2, h3⟩, h4⟩
  rcases h with h | h | h | ⟨k, hk, h⟩
  · rw [h] at h1; cases h1
  · rw [h] at h2; cases h2
  · exact h h3
  · have := h4 k hk; omega
theorem blit_some {W H M : Int} {L : List Int} {W2 H2 M2 : Int} {K : List Int} {x y : Int} (h1 : planeB W H M L = true) (h2 : planeB W2 H2 M2 K = true) (h3 : placeOk W H W2 H2 x y) (h4 : Under M K K.length) : blitO W H M L W2 H2 M2 K x y = some (blitL W L W2 K x y) := if_pos ⟨⟨h1, h2, h3⟩, h4⟩
open Go.ChangeShapes Go.WideShapes Go.ChangeAt Go.RowKit
set_option linter.unusedVariables false
set_option linter.unusedSimpArgs false

/-- a plane handed back out of a variable -/
theorem ret_plane {fn : Func} {a : Act} {w1 : World} {p s : Nat} {v0 v1 v2 v3 : Value} {Q : Ending → World → Prop} (hres : fn.results = #[.cell s 35]) (hs : a.tmps.getD s undef = .pointer (some ⟨p, 0, none⟩)) (hd : a.defers = [])
    (ht : Open4 w1 p) (hQ : Q (.returned (.agg #[v0, v1, v2, v3])) (put4 w1 p v0 v1 v2 v3)) :
    bodyPost Try.prog fn Q .ret a (put4 w1 p v0 v1 v2 v3) := by
  obtain ⟨k0, k1, k2, k3⟩ := put4_at ht v0 v1 v2 v3
  obtain ⟨w9, e9⟩ : ∃ w9, w9 = put4 w1 p v0 v1 v2 v3 := ⟨_, rfl⟩
  rw [← e9] at k0 k1 k2 k3 hQ ⊢
  clear e9
  refine bodyPost_ret (v := .agg #[v0, v1, v2, v3]) ?_ hd hQ
  rw [Array.getD_eq_getD_getElem?] at hs
  simp [results, hres, hs, go_sem, k0, k1, k2, k3]
/-- a plane out of a variable, and a test -/
theorem ret_plane2 {fn : Func} {a : Act} {w1 : World} {p s t : Nat} {v0 v1 v2 v3 u : Value} {Q : Ending → World → Prop} (hres : fn.results = #[.cell s 35, .tmp t]) (hs : a.tmps.getD s undef = .pointer (some ⟨p, 0, none⟩)) (hu : a.tmps.getD t undef = u) (hd : a.defers = [])
    (ht : Open4 w1 p) (hQ : Q (.returned (.tuple #[.agg #[v0, v1, v2, v3], u])) (put4 w1 p v0 v1 v2 v3)) :
    bodyPost Try.prog fn Q .ret a (put4 w1 p v0 v1 v2 v3) := by
  obtain ⟨k0, k1, k2, k3⟩ := put4_at ht v0 v1 v2 v3
  obtain ⟨w9, e9⟩ : ∃ w9, w9 = put4 w1 p v0 v1 v2 v3 := ⟨_, rfl⟩
  rw [← e9] at k0 k1 k2 k3 hQ ⊢
  clear e9
  refine bodyPost_ret (v := .tuple #[.agg #[v0, v1, v2, v3], u]) ?_ hd hQ
  rw [Array.getD_eq_getD_getElem?] at hs hu
  simp [results, hres, hs, hu, go_sem, k0, k1, k2, k3]
theorem slice_some {w : World} {a : Option Addr} {L : List Int} (h : SliceIs w a L) (h1 : 1 ≤ L.length) : ∃ b off, a = some ⟨b, off, none⟩ ∧ ∀ k, k < L.length → w.cell? ⟨b, off + k, none⟩ = some (.int .i64 (L.getD k 0)) := by
  obtain ⟨b, off, rfl, _⟩ := h 0 h1
  refine ⟨b, off, rfl, fun k hk => ?_⟩
  obtain ⟨b', off', e, hc⟩ := h k hk
  simp at e
  obtain ⟨rfl, rfl⟩ := e
  exact hc
theorem news_ints {w : World} {b off : Nat} {L : List Int} (h : ∀ k, k < L.length → w.cell? ⟨b, off + k, none⟩ = some (.int .i64 (L.getD k 0))) : ∀ j u, (ints L)[j]? = some u → w.cell? ((⟨b, off, none⟩ : Addr).add j) = some u := by
  intro j u hu
  rw [ints_at] at hu
  split at hu
  · rename_i hj
    simp at hu; subst hu
    rw [add_plain]; exact h j hj
  · cases hu
theorem bput4 {B : Nat} {w a : World} {p : Nat} (h : Below B w a) (hp : B ≤ p) (v0 v1 v2 v3 : Value) : Below B w (put4 a p v0 v1 v2 v3) :=
  (((h.setCell hp v0).setCell hp v1).setCell hp v2).setCell hp v3
/-- two blocks that were laid ahead are as they were -/
theorem two_kept {w : World} {cs ds : Array Value} {t t' : TypeId} {w1 : World} {row : Option Nat} (hg : ((w.alloc (.cells cs t)).alloc (.cells ds t')).grownBy w1 row) (hr : row = none) :
    (∀ j, w1.cell? ⟨w.heap.size, j, none⟩ = cs[j]?) ∧ (∀ j, w1.frozen? ⟨w.heap.size, j, none⟩ = false) ∧ (∀ j, w1.cell? ⟨w.heap.size + 1, j, none⟩ = ds[j]?) ∧ (∀ j, w1.frozen? ⟨w.heap.size + 1, j, none⟩ = false) := by
  subst hr
  have h0 : w1.heap[w.heap.size]? = some (.cells cs t) := by
    rw [hg.block w.heap.size (by simp; omega) (by simp)]
    rw [(MapKept.heap_alloc (w.alloc (.cells cs t)) (.cells ds t')).2 w.heap.size (by simp)]
    exact heap_alloc_new w _
  have h1 : w1.heap[w.heap.size + 1]? = some (.cells ds t') := by
    rw [hg.block (w.heap.size + 1) (by simp) (by simp)]
    have := heap_alloc_new (w.alloc (.cells cs t)) (.cells ds t')
    simpa using this
  refine ⟨fun j => cell_of_row w1 _ j cs t (0, 0) h0, fun j => frozen_of_row w1 _ j cs t h0, fun j => cell_of_row w1 _ j ds t' (0, 0) h1, fun j => frozen_of_row w1 _ j ds t' h1⟩
set_option maxHeartbeats 1000000 in
theorem rcopy_any (W H M : Int) (L : List Int) (a : Option Addr) (cap : Nat) (w : World) (hs : SliceIs w a L) (l1 : 1 ≤ L.length) (l2 : L.length ≤ 16384) :
    Calls Try.prog 25 #[.agg #[.int .i64 W, .int .i64 H, .int .i64 M, .slice a L.length cap]] w fun e w' => ∃ g c, e = .returned (pv W H M g L.length c) ∧ PixAt w.heap.size w' g c L ∧ Below w.heap.size w w' := by
  obtain ⟨b, off, rfl, hc⟩ := slice_some hs l1
  have hc' := Lib.hid hc
  have hs' := Lib.hid hs
  obtain ⟨i0, hi, hi0, hi1, hi2⟩ := info_parts infoI
  clear hc hs
  go_enter Try.func25, Try.ntmps25
  go_wp2_with (at_builtin; refine wpList_append_lies _ rfl _ _ _ rfl w.heap.size 3 i0 (.int .i64 0) 1 8 Try.underlying22 hi hi0 hi1 hi2 rfl (by decide) (.slice none 0 0) 0 [] rfl (World.ownsRow_nil _ _ _ _) ⟨b, off, none⟩ L.length cap (ints L) rfl (by simp [ints]) (news_ints (fun k hk => by have h0 := hc'.out k hk; rw [(balloc (balloc (bref w) _) _).cell (World.block_lt_of_cell? _ _ h0)]; exact h0)) ints_one (by omega) (by unfold maxLen; omega) (by omega) (by simp; omega) (w.heap.size + 1 + 1) (by simp) ?_; intro g c w1 hown hgrow hat hlt; obtain ⟨x0, x1, x2, x3⟩ := two_kept hgrow rfl; have z0 := x0 0; have z1 := x0 1; have z2 := x0 2; have z3 := x0 3; have u0 := x2 0; have u1 := x2 1; have u2 := x2 2; have u3 := x2 3; clear x0 x2; simp at z0 z1 z2 z3 u0 u1 u2 u3)
  have hB : Below w.heap.size w w1 := (balloc (balloc (bref w) _) _).grown hgrow (by simp; omega) (fun q e => by simp [Value.ownBlock] at e)
  have hg : ¬ g = w.heap.size ∧ ¬ g = w.heap.size + 1 := by
    rcases hat with hat | hat
    · simp [Value.ownBlock] at hat
    · omega
  have ho : PixAt w.heap.size w1 g c L := by simpa [PixAt] using hown
  have h4 : Open4 w1 (w.heap.size + 1) := fun k hk => by
    refine ⟨?_, x3 k⟩
    rcases (show k = 0 ∨ k = 1 ∨ k = 2 ∨ k = 3 by omega) with rfl | rfl | rfl | rfl
    · exact ⟨_, u0⟩
    · exact ⟨_, u1⟩
    · exact ⟨_, u2⟩
    · exact ⟨_, u3⟩
  refine ret_plane rfl rfl rfl (h4.set _ _) ⟨g, c, rfl, ?_, ?_⟩
  · refine PixAt.grown (PixAt.grown ho (grown_set _ _ _ _) (by simp; omega)) (gput4 (gref _ (some (w.heap.size + 1))) (.inr rfl) _ _ _ _) (by simp; omega)
  · exact bput4 (hB.setCell (Nat.le_refl _) _) (by omega) _ _ _ _
end Go.Proofs.Ytibmoibhbgbfoaa
