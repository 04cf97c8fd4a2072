/- The tape's planes: Sized gives a valid plane of the size, its pixels in a block of their own. The tape's planes and edges: Sized for ints, Plane, Edge. The tape's edges: a policy, and a Fill where the policy is the constant one. The tape's SpoilPlane: some plane, maybe not valid; beside new blocks the tape's alone has changed. The contract of the tape's SpoilPlane. What lies in memory in the middle of a walk: boxes of four cells, pairs, rows of pixels; kept by calls. -/
import Derived.Test.YtibmoibhbgbfoaaPRCrop
import Derived.Test.YtibmoibhbgbfoaaRect
import Derived.Deep.DeepMust
import Derived.Deep.RegionHeld3
namespace Go.Proofs.Ytibmoibhbgbfoaa
open Go.ChangeShapes Go.WideShapes Go.ChangeAt Go.RowKit
set_option linter.unusedVariables false
set_option linter.unusedSimpArgs false

theorem TapeSome.alloc {W w : World} {p : Nat} {a : Option Addr} {cap : Nat} {xs : List Int} (h : TapeSome W w p a cap xs) (o : Obj) : TapeSome W (w.alloc o) p a cap xs := h.more (balloc (bref w) o)
theorem TapeSome.drewn {W w : World} {p : Nat} {a : Option Addr} {cap : Nat} {xs : List Int} (h : TapeSome W w p a cap xs) : TapeSome W w.drew p a cap xs := h.more (bdrew1 (bref w))
/-- one of the five Maxes -/
theorem pick_max (W : World) (p : Nat) (a : Option Addr) (cap : Nat) (xs : List Int) (s c : Nat) (w : World) (h : TapeSome W w p a cap xs) (hsp : ¬ s = p)
    (h0 : w.cell? ⟨s, 0, none⟩ = some (.int .i64 255)) (h1 : w.cell? ⟨s, 1, none⟩ = some (.int .i64 255)) (h2 : w.cell? ⟨s, 2, none⟩ = some (.int .i64 65535)) (h3 : w.cell? ⟨s, 3, none⟩ = some (.int .i64 1)) (h4 : w.cell? ⟨s, 4, none⟩ = some (.int .i64 7)) :
    Calls Try.prog 11 #[.pointer (some ⟨p, 0, none⟩), .slice (some ⟨s, 0, none⟩) 5 c] w
      fun e w' => ∃ m : Int, e = .returned (.int .i64 m) ∧ (1 ≤ m ∧ m ≤ 65535) ∧ TapeSome W w' p a cap xs ∧ w.grownBy w' (some p) := by
  have := pick_some W p a cap xs s c [255, 255, 65535, 1, 7] w h hsp (by simp) (by simp) (by
    intro j hj
    simp at hj
    rcases (show j = 0 ∨ j = 1 ∨ j = 2 ∨ j = 3 ∨ j = 4 by omega) with rfl | rfl | rfl | rfl | rfl <;> simpa)
  refine this.mono fun e w' ⟨m, he, hm, hT, hg⟩ => ⟨m, he, ?_, hT, hg⟩
  simp at hm
  omega
/-- behind the first region of Sized: a fresh plane variable, zero pixels, the tape somewhere -/
def SzAt (W w : World) (p : Nat) (a : Option Addr) (cap : Nat) (xs : List Int) (cw ch n : Nat) (q g : Nat) (m : Int) (wx : World) : Prop :=
  Hid (TapeSome W wx p a cap xs) ∧ Hid (w.grownBy wx (some p)) ∧ Hid (PixAt w.heap.size wx g n (List.replicate n 0)) ∧ Hid (Open4 wx w.heap.size) ∧
    wx.cell? ⟨q, 0, none⟩ = some (.int .i64 cw) ∧ wx.cell? ⟨q, 1, none⟩ = some (.int .i64 ch) ∧ wx.cell? ⟨q, 2, none⟩ = some (.int .i64 m) ∧ wx.cell? ⟨q, 3, none⟩ = some (.slice (some ⟨g, 0, none⟩) n n)
theorem zrow {B : Nat} (n : Nat) (hn : n ≤ 4096) {A : Array Value} (hA : A = (ints (List.replicate n 0)).toArray) (X : World) (g : Nat) (hg : X.heap.size = g) (hB : B ≤ X.heap.size) : PixAt B (X.alloc (.cells A 3)) g n (List.replicate n 0) := by
  subst hg; subst hA
  have := RowIs.pix (base := B) (row_new X (List.replicate n 0)) hB (by simp [maxLen]; omega)
  simpa using this
theorem pick_four (W : World) (p : Nat) (a : Option Addr) (cap : Nat) (xs : List Int) (y0 y1 y2 y3 : Int) (c : Nat) (w : World) (t : TypeId) (h : TapeSome W (w.alloc (.cells #[.int .i64 y0, .int .i64 y1, .int .i64 y2, .int .i64 y3] t)) p a cap xs) (hsp : ¬ w.heap.size = p) :
    Calls Try.prog 11 #[.pointer (some ⟨p, 0, none⟩), .slice (some ⟨w.heap.size, 0, none⟩) 4 c] (w.alloc (.cells #[.int .i64 y0, .int .i64 y1, .int .i64 y2, .int .i64 y3] t))
      fun e w' => ∃ m : Int, e = .returned (.int .i64 m) ∧ (m = y0 ∨ m = y1 ∨ m = y2 ∨ m = y3) ∧ TapeSome W w' p a cap xs ∧ (w.alloc (.cells #[.int .i64 y0, .int .i64 y1, .int .i64 y2, .int .i64 y3] t)).grownBy w' (some p) := by
  have := pick_some W p a cap xs w.heap.size c [y0, y1, y2, y3] _ h hsp (by simp) (by simp) (by
    intro j hj
    simp at hj
    rcases (show j = 0 ∨ j = 1 ∨ j = 2 ∨ j = 3 by omega) with rfl | rfl | rfl | rfl <;> simp [World.cell?_alloc_new])
  refine this.mono fun e w' ⟨m, he, hm, hT, hg⟩ => ⟨m, he, ?_, hT, hg⟩
  simpa using hm
/-- while the pixels are drawn: pixel k alone may differ -/
structure SzK (W w : World) (p : Nat) (a : Option Addr) (cap : Nat) (xs : List Int) (q g k n cw ch : Nat) (L : List Int) (w' : World) : Prop where
  tape : TapeSome W w' p a cap xs
  grown : w.grownBy w' (some p)
  op : Open4 w' w.heap.size
  c0 : w'.cell? ⟨q, 0, none⟩ = some (.int .i64 cw)
  c1 : w'.cell? ⟨q, 1, none⟩ = some (.int .i64 ch)
  pix : ∃ L', PixAt w.heap.size w' g n L' ∧ L'.length = n ∧ ∀ j, j ≠ k → L'.getD j 0 = L.getD j 0
  far : (¬ q = p ∧ ¬ g = p ∧ ¬ g = q ∧ w.heap.size < q ∧ w.heap.size < g) ∧ (p < w.heap.size ∧ W.heap.size ≤ w.heap.size)
abbrev SzS (W w : World) (p : Nat) (a : Option Addr) (cap : Nat) (xs : List Int) (q g k n cw ch : Nat) (m : Int) (L : List Int) (w' : World) : Prop :=
  Hid (SzK W w p a cap xs q g k n cw ch L w') ∧ w'.cell? ⟨q, 2, none⟩ = some (.int .i64 m) ∧ w'.cell? ⟨q, 3, none⟩ = some (.slice (some ⟨g, 0, none⟩) n n) ∧ w'.cell? ⟨g, k, none⟩ = some (valAt w' g k) ∧ w'.frozen? ⟨g, k, none⟩ = false
theorem szS_val {w' : World} {g k : Nat} {u : Value} (h : w'.cell? ⟨g, k, none⟩ = some u) : w'.cell? ⟨g, k, none⟩ = some (valAt w' g k) := by simp [valAt, h]
theorem szS_call {W w : World} {p : Nat} {a : Option Addr} {cap : Nat} {xs : List Int} {q g k n cw ch : Nat} {m : Int} {L : List Int} {w1 w2 : World} (hT : TapeSome W w2 p a cap xs) (hg : w1.grownBy w2 (some p)) (h : SzS W w p a cap xs q g k n cw ch m L w1) : SzS W w p a cap xs q g k n cw ch m L w2 := by
  obtain ⟨h0, h2, h3, h4, h5⟩ := h
  obtain ⟨⟨f1, f2, f3, f4, f5⟩, f6, f7⟩ := h0.out.far
  obtain ⟨L', hP, hl, ha⟩ := h0.out.pix
  refine ⟨Lib.hid ⟨hT, gthen h0.out.grown hg, h0.out.op.grown hg (by simp; omega), hg.cell h0.out.c0 (by simpa using f1), hg.cell h0.out.c1 (by simpa using f1), ⟨L', hP.grown hg (by simpa using f2), hl, ha⟩, h0.out.far⟩, hg.cell h2 (by simpa using f1), hg.cell h3 (by simpa using f1), szS_val (hg.cell h4 (by simpa using f2)), ?_⟩
  rw [hg.frozen_far _ (World.block_lt_of_cell? _ _ h4) (by simpa using f2)]; exact h5
theorem szS_alloc {W w : World} {p : Nat} {a : Option Addr} {cap : Nat} {xs : List Int} {q g k n cw ch : Nat} {m : Int} {L : List Int} {w1 : World} (h : SzS W w p a cap xs q g k n cw ch m L w1) (o : Obj) : SzS W w p a cap xs q g k n cw ch m L (w1.alloc o) :=
  szS_call (h.1.out.tape.alloc o) (galloc (gref w1 _) o) h
theorem szS_drew {W w : World} {p : Nat} {a : Option Addr} {cap : Nat} {xs : List Int} {q g k n cw ch : Nat} {m : Int} {L : List Int} {w1 : World} (h : SzS W w p a cap xs q g k n cw ch m L w1) : SzS W w p a cap xs q g k n cw ch m L w1.drew :=
  szS_call h.1.out.tape.drewn (gdrew (gref w1 _)) h
theorem szS_far {W w : World} {p : Nat} {a : Option Addr} {cap : Nat} {xs : List Int} {q g k n cw ch : Nat} {m : Int} {L : List Int} {w1 : World} {o : Obj} (h : SzS W w p a cap xs q g k n cw ch m L (w1.alloc o)) : ¬ w1.heap.size = p := by
  have h1 := h.1.out.op.lt
  have h2 := h.1.out.far.2.1
  simp at h1
  omega
theorem szS_set {W w : World} {p : Nat} {a : Option Addr} {cap : Nat} {xs : List Int} {q g k n cw ch : Nat} {m : Int} {L : List Int} {w1 : World} (h : SzS W w p a cap xs q g k n cw ch m L w1) (v : Int) : SzS W w p a cap xs q g k n cw ch m L (w1.setCell ⟨g, k, none⟩ (.int .i64 v)) := by
  obtain ⟨h0, h2, h3, h4, h5⟩ := h
  obtain ⟨⟨f1, f2, f3, f4, f5⟩, f6, f7⟩ := h0.out.far
  obtain ⟨L', hP, hl, ha⟩ := h0.out.pix
  have hg := grown_set w1 g k (.int .i64 v)
  have c : ∀ b o u, ¬ g = b → w1.cell? ⟨b, o, none⟩ = some u → (w1.setCell ⟨g, k, none⟩ (.int .i64 v)).cell? ⟨b, o, none⟩ = some u := fun b o u hne hc => hg.cell hc (by simpa using Ne.symm hne)
  refine ⟨Lib.hid ⟨h0.out.tape.grown (by omega) (by omega) _ _, gset h0.out.grown (.inl (by omega)) _ _, h0.out.op.set _ _, c _ _ _ f3 h0.out.c0, c _ _ _ f3 h0.out.c1, ⟨L'.set k v, (hP.store k v).1, by rw [List.length_set]; exact hl, fun j hj => ?_⟩, h0.out.far⟩, c _ _ _ f3 h2, c _ _ _ f3 h3, szS_val (World.cell?_setCell_same _ _ _ h4), by rw [World.frozen?_setCell]; exact h5⟩
  rw [← ha j hj]
  simp [List.getD_eq_getElem?_getD, List.getElem?_set, Ne.symm hj]
theorem szS_next {W w : World} {p : Nat} {a : Option Addr} {cap : Nat} {xs : List Int} {q g k n cw ch : Nat} {m : Int} {L : List Int} {w3 : World} (h : SzS W w p a cap xs q g k n cw ch m L w3) (v : Int) (hk : k < n) (hL : L.length = n ∧ Pixs m L n) (hv : 0 ≤ v ∧ v ≤ m) (k' : Nat) :
    ∃ L', (L'.length = n ∧ Pixs m L' n) ∧ (SzK W w p a cap xs q g k' n cw ch L' (w3.setCell ⟨g, k, none⟩ (.int .i64 v)) ∧ PixAt w.heap.size (w3.setCell ⟨g, k, none⟩ (.int .i64 v)) g n L') ∧
      (w3.setCell ⟨g, k, none⟩ (.int .i64 v)).cell? ⟨q, 2, none⟩ = some (.int .i64 m) ∧ (w3.setCell ⟨g, k, none⟩ (.int .i64 v)).cell? ⟨q, 3, none⟩ = some (.slice (some ⟨g, 0, none⟩) n n) := by
  obtain ⟨L1, hP, hl, ha⟩ := h.1.out.pix
  have hs := szS_set h v
  have hp := (hP.store k v).1
  refine ⟨L1.set k v, ⟨by rw [List.length_set]; exact hl, fun j hj => ?_⟩, ⟨⟨hs.1.out.tape, hs.1.out.grown, hs.1.out.op, hs.1.out.c0, hs.1.out.c1, ⟨_, hp, by rw [List.length_set]; exact hl, fun _ _ => rfl⟩, hs.1.out.far⟩, hp⟩, hs.2.1, hs.2.2.1⟩
  by_cases e : j = k
  · subst e
    have : (L1.set j v).getD j 0 = v := by simp [List.getD_eq_getElem?_getD, show j < L1.length by omega]
    rw [this]; exact hv
  · have : (L1.set k v).getD j 0 = L.getD j 0 := by rw [← ha j e]; simp [List.getD_eq_getElem?_getD, List.getElem?_set, Ne.symm e]
    rw [this]; exact hL.2 j hj
/-- a plane of a size came back: valid, its pixels the whole of a new block; beside new blocks the tape's alone has changed -/
def SizedPost (W : World) (p : Nat) (a : Option Addr) (cap : Nat) (xs : List Int) (cw ch : Nat) (w : World) (e : Ending) (w' : World) : Prop :=
  ∃ (m : Int) (g : Nat) (L : List Int), e = .returned (.agg #[.int .i64 cw, .int .i64 ch, .int .i64 m, .slice (some ⟨g, 0, none⟩) L.length L.length]) ∧ planeB cw ch m L = true ∧ m ≤ 65535 ∧ PixAt w.heap.size w' g L.length L ∧ TapeSome W w' p a cap xs ∧ w.grownBy w' (some p)
theorem pixs_zeros {m : Int} (n : Nat) (h : 0 ≤ m) : Pixs m (List.replicate n 0) n := fun k hk => by simp [List.getD_eq_getElem?_getD, hk]; exact h
set_option maxHeartbeats 4000000 in
theorem sized_any (W : World) (p : Nat) (a : Option Addr) (cap : Nat) (xs : List Int) (cw ch : Nat) (w : World) (h : TapeSome W w p a cap xs) (c1 : 1 ≤ cw) (c2 : cw ≤ 64) (d1 : 1 ≤ ch) (d2 : ch ≤ 64) :
    Calls Try.prog 34 #[.pointer (some ⟨p, 0, none⟩), .int .i64 cw, .int .i64 ch] w (SizedPost W p a cap xs cw ch w) := by
  have hT := Lib.hid h
  have hlt := h.lt.1
  obtain ⟨n, eN⟩ : ∃ n : Nat, (cw : Int) * ch = n := ⟨cw * ch, by push_cast; rfl⟩
  have hn : n ≤ 4096 := by
    have h1 : cw * ch ≤ 64 * 64 := Nat.mul_le_mul c2 d2
    have h2 : cw * ch = n := by exact_mod_cast eN
    omega
  obtain ⟨A, hA, hmk⟩ := run_zeros n (by omega)
  have hA' := Lib.hid hA
  clear hA
  go_enter Try.func34, Try.ntmps34
  go_upto_region 1 with fail
  have en : IntKind.i64.wrap (n : Int) = n := IntWalk.i64_in _ (by omega)
  have n0 : ¬ w.heap.size = p := by omega
  have n1 : ¬ w.heap.size + 1 = p := by omega
  have n2 : ¬ w.heap.size + 1 + 1 = p := by omega
  have n3 : ¬ w.heap.size + 1 + 1 + 1 = p := by omega
  have hWw := h.lt.2.2
  clear h
  go_cut [7, 17] (fun s7 s17 wx => ∃ (q g : Nat) (m : Int), s7 = .pointer (some ⟨q, 0, none⟩) ∧ s17 = .slice (some ⟨g, 0, none⟩) n n ∧ (1 ≤ m ∧ m ≤ 65535) ∧ (¬ q = p ∧ ¬ g = p ∧ ¬ g = q ∧ w.heap.size < q ∧ w.heap.size < g) ∧ SzAt W w p a cap xs cw ch n q g m wx)
  case first =>
   go_region_with (go_at_call 11; go_must (refine (pick_max W p a cap xs _ _ _ (by (repeat (first | refine TapeSome.drewn ?_ | refine TapeSome.alloc ?_ _)); exact hT.out) (by first | omega | (simp; omega)) (by go_cell) (by go_cell) (by go_cell) (by go_cell) (by go_cell)).mono ?_; rintro e w1 ⟨m, rfl, ⟨m0, m1⟩, hT1, hg1⟩; obtain ⟨hc1, hf1⟩ := gcell hg1; have z := hg1.size; simp at z; have z0 : w.heap.size < w1.heap.size := (by omega); have z1 : w.heap.size + 1 < w1.heap.size := (by omega); try (have z2 : w.heap.size + 1 + 1 < w1.heap.size := (by omega)); try (have z3 : w.heap.size + 1 + 1 + 1 < w1.heap.size := (by omega))))
   all_goals
    go_wp2_with fail
    go_meet
    refine ⟨_, _, m, rfl, rfl, ⟨m0, m1⟩, by omega, Lib.hid ?_, Lib.hid ?_, Lib.hid ?_, Lib.hid ?_, ?_, ?_, ?_, ?_⟩
    · (repeat (first | exact hT1 | with_reducible refine TapeSome.drewn ?_ | with_reducible refine TapeSome.alloc ?_ _ | with_reducible refine TapeSome.grown ?_ (by omega) (by omega) _ _))
    · (repeat (first | with_reducible exact gref w _ | with_reducible refine galloc ?_ _ | with_reducible refine gset ?_ (.inl (by omega)) _ _ | with_reducible refine gdrew ?_ | with_reducible refine gthen ?_ hg1))
    · (repeat (first | with_reducible exact zrow n hn hA'.out _ _ (by first | rfl | simp) (by first | omega | (simp; omega) | simp) | with_reducible refine PixAt.below ?_ (balloc (bref _) _) | with_reducible refine PixAt.grown ?_ (grown_set _ _ _ _) (by simp <;> omega) | with_reducible refine PixAt.below ?_ (bdrew1 (bref _)) | with_reducible refine PixAt.grown ?_ hg1 (by simp <;> omega)))
    · (repeat (first | with_reducible exact Open4.new w _ _ _ _ _ | with_reducible refine Open4.alloc ?_ _ | with_reducible refine Open4.set ?_ _ _ | with_reducible refine Open4.drew ?_ | with_reducible refine Open4.grown ?_ hg1 (by simp <;> omega)))
    all_goals go_cell
  case rest =>
    obtain ⟨q, g, m, rfl, rfl, ⟨m0, m1⟩, ⟨n0, n1, n2, n3, n4⟩, hT1, hG, hP, hO, c0, c1, c2, c3⟩ := hcut
    have hfar := Lib.hid (show (¬ q = p ∧ ¬ g = p ∧ ¬ g = q ∧ w.heap.size < q ∧ w.heap.size < g) ∧ (p < w.heap.size ∧ W.heap.size ≤ w.heap.size) by omega)
    have hK0 : Hid (SzK W w p a cap xs q g 0 n cw ch (List.replicate n 0) wc) := Lib.hid ⟨hT1.out, hG.out, hO.out, c0, c1, ⟨_, hP.out, by simp, fun j _ => rfl⟩, hfar.out⟩
    have hc2 : Hid (wc.cell? ⟨q, 2, none⟩ = some (.int .i64 m)) := Lib.hid c2
    have hc3 : Hid (wc.cell? ⟨q, 3, none⟩ = some (.slice (some ⟨g, 0, none⟩) n n)) := Lib.hid c3
    have hPz := hP
    clear hT1 hG hP hO c0 c1 c2 c3
    go_wp2_with fail
    go_loopw [8] (fun i wr => ∃ (k : Nat) (L : List Int), k ≤ n ∧ i = .int .i64 k ∧ Hid (L.length = n ∧ Pixs m L n) ∧ Hid (SzK W w p a cap xs q g k n cw ch L wr ∧ PixAt w.heap.size wr g n L) ∧ Hid (wr.cell? ⟨q, 2, none⟩ = some (.int .i64 m)) ∧ Hid (wr.cell? ⟨q, 3, none⟩ = some (.slice (some ⟨g, 0, none⟩) n n))) (fun i _ => n - (intOf i).toNat)
    case atStart => exact ⟨0, _, by omega, rfl, Lib.hid ⟨by simp, pixs_zeros n (by omega)⟩, Lib.hid ⟨hK0.out, by obtain ⟨L', hP, hl, ha⟩ := hK0.out.pix; exact hPz.out⟩, hc2, hc3⟩
    case round =>
      clear hK0 hc2 hc3
      obtain ⟨k, L, hk, rfl, hL, hK, hc2, hc3⟩ := hrel
      by_cases hlt : k < n
      · have hkI : (k : Int) < n := by omega
        have hdc := hK.out.2.cell (k := k) (by rw [hL.out.1]; exact hlt)
        have hdf := hK.out.2.frozen k
        have hS : SzS W w p a cap xs q g k n cw ch m L wr.drew := szS_drew ⟨Lib.hid hK.out.1, hc2.out, hc3.out, szS_val hdc, hdf⟩
        have hSS := Lib.hid hS
        have c3' := hc3.out
        have hm1 : IntKind.i64.wrap (m + 1) = m + 1 := IntWalk.i64_in _ (by omega)
        clear hdc hdf
        go_upto_region 5 with fail
        clear c3'
        go_region_held3 (fun w' => SzS W w p a cap xs q g k n cw ch m L w') ((first | exact hSS.out | exact szS_call hTa hga ‹_› | exact szS_call hTc hgc ‹_› | exact szS_alloc ‹_› _ | exact szS_set ‹_› _))
          (first
            | (go_at_call 9; refine (next_some W p a cap xs _ _ (‹SzS W w p a cap xs q g k n cw ch m L _›).1.out.tape (by omega) (by omega)).mono ?_; rintro e w1 ⟨x, rfl, ⟨x0, x1⟩, hTa, hga⟩)
            | (go_at_call 11; refine (pick_four W p a cap xs _ _ _ _ _ _ _ (‹SzS W w p a cap xs q g k n cw ch m L _›).1.out.tape (szS_far ‹SzS W w p a cap xs q g k n cw ch m L _›)).mono ?_; rintro e w3 ⟨v, rfl, hv, hTc, hgc⟩))
        all_goals
          have hvm : 0 ≤ v ∧ v ≤ m := by omega
          have hgA := ‹wr.drew.grownBy _ (some p)›
          have hS1 := szS_call (by assumption) hgA hSS.out
          have hS3 := szS_call hTc hgc (szS_alloc (szS_call hTa hga hS1) _)
          have hN := Lib.hid (szS_next hS3 v hlt hL.out hvm (k + 1))
          clear hgA hS1 hS3
          go_wp2_with fail
          go_roundw
          case rel =>
            obtain ⟨L', a1, a2, a3, a4⟩ := hN.out
            exact ⟨k + 1, L', by omega, by go_num, Lib.hid a1, Lib.hid a2, Lib.hid a3, Lib.hid a4⟩
          case measure => simp [intOf]; omega
      · obtain rfl : k = n := by omega
        have c0 := hK.out.1.c0
        have c1 := hK.out.1.c1
        have c2 := hc2.out
        have c3 := hc3.out
        obtain ⟨⟨v0, o0, f0⟩, ⟨v1, o1, f1⟩, ⟨v2, o2, f2⟩, ⟨v3, o3, f3⟩⟩ := open_cells hK.out.1.op
        go_wp2_with fail
        refine ret_plane Try.results34 rfl rfl hK.out.1.op ?_
        obtain ⟨hLn, hPx⟩ := hL.out
        obtain ⟨⟨f1', f2', f3', f4', f5'⟩, f6', f7'⟩ := hfar.out
        subst hLn
        refine ⟨m, g, L, rfl, planeB_all (sizeB_t.2 ⟨by omega, by omega, by rw [eN]; omega, by omega⟩) (by rw [eN]) hPx, m1, ?_, hK.out.1.tape.put hWw (by omega) _ _ _ _, gput4 hK.out.1.grown (.inl (Nat.le_refl _)) _ _ _ _⟩
        exact hK.out.2.grown (gput4 (gref wr (some w.heap.size)) (.inr rfl) _ _ _ _) (by simp; omega)
open Go.ChangeShapes Go.WideShapes Go.ChangeAt Go.RowKit
set_option linter.unusedVariables false
set_option linter.unusedSimpArgs false

/-- a plane of a size came back: valid, its pixels the whole of a new block; beside new blocks the tape's alone has changed -/
def PlaneOf (W : World) (p : Nat) (a : Option Addr) (cap : Nat) (xs : List Int) (c h : Int) (w : World) (e : Ending) (w' : World) : Prop :=
  ∃ (m : Int) (g : Nat) (L : List Int), e = .returned (.agg #[.int .i64 c, .int .i64 h, .int .i64 m, .slice (some ⟨g, 0, none⟩) L.length L.length]) ∧ planeB c h m L = true ∧ m ≤ 65535 ∧ PixAt w.heap.size w' g L.length L ∧ TapeSome W w' p a cap xs ∧ w.grownBy w' (some p)
theorem sized_int (W : World) (p : Nat) (a : Option Addr) (cap : Nat) (xs : List Int) (c h : Int) (w : World) (hT : TapeSome W w p a cap xs) (c1 : 1 ≤ c) (c2 : c ≤ 64) (d1 : 1 ≤ h) (d2 : h ≤ 64) :
    Calls Try.prog 34 #[.pointer (some ⟨p, 0, none⟩), .int .i64 c, .int .i64 h] w (PlaneOf W p a cap xs c h w) := by
  obtain ⟨cw, rfl⟩ : ∃ cw : Nat, c = cw := ⟨c.toNat, by omega⟩
  obtain ⟨ch, rfl⟩ : ∃ ch : Nat, h = ch := ⟨h.toNat, by omega⟩
  exact sized_any W p a cap xs cw ch w hT (by omega) (by omega) (by omega) (by omega)
/-- some small valid plane came back -/
def SomePlane (W : World) (p : Nat) (a : Option Addr) (cap : Nat) (xs : List Int) (w : World) (e : Ending) (w' : World) : Prop := ∃ c h : Int, (1 ≤ c ∧ c ≤ 6) ∧ (1 ≤ h ∧ h ≤ 5) ∧ PlaneOf W p a cap xs c h w e w'
set_option maxHeartbeats 1000000 in
theorem plane_any (W : World) (p : Nat) (a : Option Addr) (cap : Nat) (xs : List Int) (w : World) (hT : TapeSome W w p a cap xs) :
    Calls Try.prog 15 #[.pointer (some ⟨p, 0, none⟩)] w (SomePlane W p a cap xs w) := by
  have hT0 := Lib.hid (hT.alloc (.cells #[.int .i64 0, .int .i64 0, .int .i64 0, .slice none 0 0] 35))
  have hlt := hT.lt
  clear hT
  go_enter Try.func15, Try.ntmps15
  go_wp2_with fail
  refine (next_some W p a cap xs _ _ hT0.out (by omega) (by omega)).mono ?_; rintro e w1 ⟨x, rfl, ⟨x0, x1⟩, hT1, hg1⟩
  replace hT1 := Lib.hid hT1
  replace hg1 := Lib.hid hg1
  go_wp2_with fail
  refine (next_some W p a cap xs _ _ hT1.out (by omega) (by omega)).mono ?_; rintro e w2 ⟨y, rfl, ⟨y0, y1⟩, hT2, hg2⟩
  replace hT2 := Lib.hid hT2
  replace hg2 := Lib.hid hg2
  go_wp2_with fail
  refine (sized_int W p a cap xs _ _ _ hT2.out (by omega) (by omega) (by omega) (by omega)).mono ?_; rintro e w3 ⟨m, g, L, rfl, hv, hm, hP, hT3, hg3⟩
  have hG := Lib.hid (show w.grownBy w3 (some p) from gthen (gthen (gthen (galloc (gref w _) _) hg1.out) hg2.out) hg3)
  have n0 : some w.heap.size ≠ some p := by simp; omega
  have hO := Lib.hid (((Open4.new w (.int .i64 0) (.int .i64 0) (.int .i64 0) (.slice none 0 0) 35).grown hg1.out n0).grown hg2.out n0 |>.grown hg3 n0)
  have hv' := Lib.hid hv
  have hP' := Lib.hid hP
  have hT3' := Lib.hid hT3
  have hwl : w.heap.size < w2.heap.size := by have h1 := hg1.out.size; have h2 := hg2.out.size; simp at h1; omega
  clear hg3 hv hP hT3
  obtain ⟨⟨v0, o0, f0⟩, ⟨v1, o1, f1⟩, ⟨v2, o2, f2⟩, ⟨v3, o3, f3⟩⟩ := open_cells hO.out
  go_wp2_with fail
  have hgl := hP'.out.lt
  refine ret_plane Try.results15 rfl rfl hO.out ⟨1 + x, 1 + y, by omega, by omega, m, g, L, rfl, hv'.out, hm, ?_, hT3'.out.put (by omega) (by omega) _ _ _ _, gput4 hG.out (.inl (Nat.le_refl _)) _ _ _ _⟩
  exact (hP'.out.base (by omega)).grown (gput4 (gref w3 (some w.heap.size)) (.inr rfl) _ _ _ _) (by simp; omega)
open Go.ChangeShapes Go.WideShapes Go.ChangeAt Go.RowKit
set_option linter.unusedVariables false
set_option linter.unusedSimpArgs false

theorem ret_edge {fn : Func} {a : Act} {w9 : World} {p s : Nat} {v0 v1 : Value} {Q : Ending → World → Prop} (hres : fn.results = #[.cell s 38]) (hs : a.tmps.getD s undef = .pointer (some ⟨p, 0, none⟩)) (hd : a.defers = [])
    (k0 : w9.cell? ⟨p, 0, none⟩ = some v0) (k1 : w9.cell? ⟨p, 1, none⟩ = some v1) (hQ : Q (.returned (.agg #[v0, v1])) w9) :
    bodyPost Try.prog fn Q .ret a w9 := by
  refine bodyPost_ret (v := .agg #[v0, v1]) ?_ hd hQ
  rw [Array.getD_eq_getD_getElem?] at hs
  simp [results, hres, hs, go_sem, k0, k1]
theorem pick_three (W : World) (p : Nat) (a : Option Addr) (cap : Nat) (xs : List Int) (y0 y1 y2 : Int) (s c : Nat) (w : World) (h : TapeSome W w p a cap xs) (hsp : ¬ s = p)
    (h0 : w.cell? ⟨s, 0, none⟩ = some (.int .i64 y0)) (h1 : w.cell? ⟨s, 1, none⟩ = some (.int .i64 y1)) (h2 : w.cell? ⟨s, 2, none⟩ = some (.int .i64 y2)) :
    Calls Try.prog 11 #[.pointer (some ⟨p, 0, none⟩), .slice (some ⟨s, 0, none⟩) 3 c] w
      fun e w' => ∃ m : Int, e = .returned (.int .i64 m) ∧ (m = y0 ∨ m = y1 ∨ m = y2) ∧ TapeSome W w' p a cap xs ∧ w.grownBy w' (some p) := by
  have := pick_some W p a cap xs s c [y0, y1, y2] w h hsp (by simp) (by simp) (by
    intro j hj
    simp at hj
    rcases (show j = 0 ∨ j = 1 ∨ j = 2 by omega) with rfl | rfl | rfl <;> simpa)
  refine this.mono fun e w' ⟨m, he, hm, hT, hg⟩ => ⟨m, he, ?_, hT, hg⟩
  simpa using hm
/-- an edge came back; beside new blocks the tape's alone has changed -/
def EdgeOf (W : World) (p : Nat) (a : Option Addr) (cap : Nat) (xs : List Int) (mx : Int) (w : World) (e : Ending) (w' : World) : Prop :=
  ∃ q f : Int, e = .returned (.agg #[.int .i64 q, .int .i64 f]) ∧ (0 ≤ q ∧ q ≤ 3) ∧ (q = 3 ∨ f = 0) ∧ (f = 0 ∨ f = mx ∨ f = mx.tdiv 2) ∧ TapeSome W w' p a cap xs ∧ w.grownBy w' (some p)
theorem pair_kept {w0 w1 : World} {p : Nat} {v0 v1 : Value} {t : TypeId} (hg : (w0.alloc (.cells #[v0, v1] t)).grownBy w1 (some p)) (hne : ¬ w0.heap.size = p) :
    w1.cell? ⟨w0.heap.size, 0, none⟩ = some v0 ∧ w1.cell? ⟨w0.heap.size, 1, none⟩ = some v1 ∧ w1.frozen? ⟨w0.heap.size, 0, none⟩ = false ∧ w1.frozen? ⟨w0.heap.size, 1, none⟩ = false := by
  have h0 : w1.heap[w0.heap.size]? = some (.cells #[v0, v1] t) := by
    rw [hg.block w0.heap.size (by simp) (by simpa using hne)]
    exact heap_alloc_new w0 _
  exact ⟨by rw [cell_of_row w1 _ 0 _ t (0, 0) h0]; rfl, by rw [cell_of_row w1 _ 1 _ t (0, 0) h0]; rfl, frozen_of_row w1 _ 0 _ t h0, frozen_of_row w1 _ 1 _ t h0⟩
theorem pair_more {w1 w2 : World} {p b : Nat} {v0 v1 : Value} (hg : w1.grownBy w2 (some p)) (hne : ¬ b = p) (h : w1.cell? ⟨b, 0, none⟩ = some v0 ∧ w1.cell? ⟨b, 1, none⟩ = some v1 ∧ w1.frozen? ⟨b, 0, none⟩ = false ∧ w1.frozen? ⟨b, 1, none⟩ = false) :
    w2.cell? ⟨b, 0, none⟩ = some v0 ∧ w2.cell? ⟨b, 1, none⟩ = some v1 ∧ w2.frozen? ⟨b, 0, none⟩ = false ∧ w2.frozen? ⟨b, 1, none⟩ = false := by
  obtain ⟨h0, h1, h2, h3⟩ := h
  exact ⟨hg.cell h0 (by simpa using hne), hg.cell h1 (by simpa using hne), by rw [hg.frozen_far _ (World.block_lt_of_cell? _ _ h0) (by simpa using hne)]; exact h2, by rw [hg.frozen_far _ (World.block_lt_of_cell? _ _ h1) (by simpa using hne)]; exact h3⟩
set_option maxHeartbeats 1000000 in
theorem edge_tape (W : World) (p : Nat) (a : Option Addr) (cap : Nat) (xs : List Int) (mx : Int) (w : World) (hT : TapeSome W w p a cap xs) (x0 : -9223372036854775808 ≤ mx) (x1 : mx ≤ 9223372036854775807) :
    Calls Try.prog 16 #[.pointer (some ⟨p, 0, none⟩), .int .i64 mx] w (EdgeOf W p a cap xs mx w) := by
  have hT0 := Lib.hid (hT.alloc (.cells #[.int .i64 0, .int .i64 0] 38))
  have hlt := hT.lt
  have n0 : ¬ w.heap.size = p := by omega
  clear hT
  go_enter Try.func16, Try.ntmps16
  go_wp2_with fail
  refine (next_some W p a cap xs _ _ hT0.out (by omega) (by omega)).mono ?_; rintro e w1 ⟨q, rfl, ⟨q0, q1⟩, hT1, hg1⟩
  obtain ⟨r0, r1, r2, r3⟩ := pair_kept hg1 n0
  have hT1' := Lib.hid hT1
  have hg1' := Lib.hid hg1
  have hw1 : w.heap.size < w1.heap.size := by have h1 := hg1.size; simp at h1; omega
  have hp1 := hT1.lt
  clear hT1 hg1
  have hq2 : IntKind.i64.wrap (mx.tdiv 2) = mx.tdiv 2 := by
    have hm := Int.tmod_add_mul_tdiv mx 2
    have hb := tmod_bd mx 2 (by omega)
    exact IntWalk.i64_in _ (by omega)
  by_cases h3 : q = 3
  · subst h3
    go_wp2_with fail
    refine (pick_three W p a cap xs 0 mx (mx.tdiv 2) _ _ _ ((hT1'.out.alloc _).alloc _) (by omega) (by go_cell) (by go_cell) (by go_cell)).mono ?_; rintro e w2 ⟨f, rfl, hf, hT2, hg2⟩
    have n1 : ¬ w1.heap.size = p := by omega
    obtain ⟨s0, s1, s2, s3⟩ := pair_more (v0 := .int .i64 3) (v1 := .int .i64 0) hg2 n1 ⟨by go_cell, by go_cell, by go_cell, by go_cell⟩
    obtain ⟨t0, t1, t2, t3⟩ := pair_more (gthen (galloc (galloc (gref w1 _) _) _) hg2) n0 ⟨r0, r1, r2, r3⟩
    have hT2' := Lib.hid hT2
    have hg2' := Lib.hid hg2
    have ne : ¬ w.heap.size = w1.heap.size := by omega
    clear hT2 hg2 r0 r1 r2 r3
    go_wp2_with fail
    refine ret_edge Try.results16 rfl rfl (v0 := .int .i64 3) (v1 := .int .i64 f) (by go_cell) (by go_cell) ⟨3, f, rfl, by omega, by omega, by omega, ?_, ?_⟩
    · exact ((hT2'.out.grown (by omega) (by omega) _ _).grown (by omega) (by omega) _ _).grown (by omega) (by omega) _ _
    · exact gset (gset (gset (gthen (galloc (galloc (gthen (galloc (gref w _) _) hg1'.out) _) _) hg2'.out) (.inl (by omega)) _ _) (.inl (by omega)) _ _) (.inl (by omega)) _ _
  · have h3' : ¬ q = 3 := h3
    go_wp2_with fail
    refine ret_edge Try.results16 rfl rfl (v0 := .int .i64 q) (v1 := .int .i64 0) (by go_cell) (by go_cell) ⟨q, 0, rfl, by omega, .inr rfl, .inl rfl, ?_, ?_⟩
    · (repeat (first | exact hT1'.out | with_reducible refine TapeSome.alloc ?_ _ | with_reducible refine TapeSome.grown ?_ (by omega) (by omega) _ _))
    · (repeat (first | with_reducible exact gref w _ | with_reducible refine galloc ?_ _ | with_reducible refine gset ?_ (.inl (by omega)) _ _ | with_reducible refine gthen ?_ hg1'.out))
open Go.ChangeShapes Go.WideShapes Go.ChangeAt Go.RowKit
set_option linter.unusedVariables false
set_option linter.unusedSimpArgs false

/-- some plane came back -/
def SpoilOf (W : World) (p : Nat) (a : Option Addr) (cap : Nat) (xs : List Int) (w : World) (e : Ending) (w' : World) : Prop :=
  ∃ (c h m : Int) (K : List Int) (sl : Option Addr) (k : Nat), e = .returned (.agg #[.int .i64 c, .int .i64 h, .int .i64 m, .slice sl K.length k]) ∧ SliceIs w' sl K ∧ K.length ≤ 4097 ∧
    (-9223372036854775808 ≤ c ∧ c ≤ 9223372036854775807) ∧ (-9223372036854775808 ≤ h ∧ h ≤ 9223372036854775807) ∧ (-9223372036854775808 ≤ m ∧ m ≤ 9223372036854775807) ∧ TapeSome W w' p a cap xs ∧ w.grownBy w' (some p) ∧ (∀ b o, sl = some ⟨b, o, none⟩ → w.heap.size ≤ b)
/-- a block's four cells, which can be written -/
def Box4 (w : World) (b : Nat) (v0 v1 v2 v3 : Value) : Prop :=
  (w.cell? ⟨b, 0, none⟩ = some v0 ∧ w.cell? ⟨b, 1, none⟩ = some v1 ∧ w.cell? ⟨b, 2, none⟩ = some v2 ∧ w.cell? ⟨b, 3, none⟩ = some v3) ∧ (w.frozen? ⟨b, 0, none⟩ = false ∧ w.frozen? ⟨b, 1, none⟩ = false ∧ w.frozen? ⟨b, 2, none⟩ = false ∧ w.frozen? ⟨b, 3, none⟩ = false)
theorem Box4.grown {w w' : World} {b : Nat} {v0 v1 v2 v3 : Value} {row : Option Nat} (h : Box4 w b v0 v1 v2 v3) (hg : w.grownBy w' row) (hne : some b ≠ row) : Box4 w' b v0 v1 v2 v3 := by
  obtain ⟨⟨h0, h1, h2, h3⟩, f0, f1, f2, f3⟩ := h
  have hl := World.block_lt_of_cell? _ _ h0
  refine ⟨⟨hg.cell h0 hne, hg.cell h1 hne, hg.cell h2 hne, hg.cell h3 hne⟩, ?_, ?_, ?_, ?_⟩
  · rw [hg.frozen_far ⟨b, 0, none⟩ hl hne]; exact f0
  · rw [hg.frozen_far ⟨b, 1, none⟩ hl hne]; exact f1
  · rw [hg.frozen_far ⟨b, 2, none⟩ hl hne]; exact f2
  · rw [hg.frozen_far ⟨b, 3, none⟩ hl hne]; exact f3
theorem Box4.of {w : World} {b : Nat} {v0 v1 v2 v3 : Value} {t : TypeId} (h : w.heap[b]? = some (.cells #[v0, v1, v2, v3] t)) : Box4 w b v0 v1 v2 v3 :=
  ⟨⟨by rw [cell_of_row w _ 0 _ t (0, 0) h]; rfl, by rw [cell_of_row w _ 1 _ t (0, 0) h]; rfl, by rw [cell_of_row w _ 2 _ t (0, 0) h]; rfl, by rw [cell_of_row w _ 3 _ t (0, 0) h]; rfl⟩,
    frozen_of_row w _ 0 _ t h, frozen_of_row w _ 1 _ t h, frozen_of_row w _ 2 _ t h, frozen_of_row w _ 3 _ t h⟩
theorem Box4.op {w : World} {b : Nat} {v0 v1 v2 v3 : Value} (h : Box4 w b v0 v1 v2 v3) : Open4 w b := fun k hk => by
  obtain ⟨⟨h0, h1, h2, h3⟩, f0, f1, f2, f3⟩ := h
  rcases (show k = 0 ∨ k = 1 ∨ k = 2 ∨ k = 3 by omega) with rfl | rfl | rfl | rfl
  · exact ⟨⟨_, h0⟩, f0⟩
  · exact ⟨⟨_, h1⟩, f1⟩
  · exact ⟨⟨_, h2⟩, f2⟩
  · exact ⟨⟨_, h3⟩, f3⟩
theorem Box4.set0 {w : World} {b : Nat} {v0 v1 v2 v3 : Value} (h : Box4 w b v0 v1 v2 v3) (u : Value) : Box4 (w.setCell ⟨b, 0, none⟩ u) b u v1 v2 v3 := by
  obtain ⟨⟨h0, h1, h2, h3⟩, f0, f1, f2, f3⟩ := h
  refine ⟨⟨World.cell?_setCell_same _ _ _ h0, ?_, ?_, ?_⟩, by rw [World.frozen?_setCell]; exact f0, by rw [World.frozen?_setCell]; exact f1, by rw [World.frozen?_setCell]; exact f2, by rw [World.frozen?_setCell]; exact f3⟩
  all_goals (rw [World.cell?_setCell_other _ _ _ _ (by simp)]; assumption)
theorem Box4.set1 {w : World} {b : Nat} {v0 v1 v2 v3 : Value} (h : Box4 w b v0 v1 v2 v3) (u : Value) : Box4 (w.setCell ⟨b, 1, none⟩ u) b v0 u v2 v3 := by
  obtain ⟨⟨h0, h1, h2, h3⟩, f0, f1, f2, f3⟩ := h
  refine ⟨⟨?_, World.cell?_setCell_same _ _ _ h1, ?_, ?_⟩, by rw [World.frozen?_setCell]; exact f0, by rw [World.frozen?_setCell]; exact f1, by rw [World.frozen?_setCell]; exact f2, by rw [World.frozen?_setCell]; exact f3⟩
  all_goals (rw [World.cell?_setCell_other _ _ _ _ (by simp)]; assumption)
theorem Box4.set2 {w : World} {b : Nat} {v0 v1 v2 v3 : Value} (h : Box4 w b v0 v1 v2 v3) (u : Value) : Box4 (w.setCell ⟨b, 2, none⟩ u) b v0 v1 u v3 := by
  obtain ⟨⟨h0, h1, h2, h3⟩, f0, f1, f2, f3⟩ := h
  refine ⟨⟨?_, ?_, World.cell?_setCell_same _ _ _ h2, ?_⟩, by rw [World.frozen?_setCell]; exact f0, by rw [World.frozen?_setCell]; exact f1, by rw [World.frozen?_setCell]; exact f2, by rw [World.frozen?_setCell]; exact f3⟩
  all_goals (rw [World.cell?_setCell_other _ _ _ _ (by simp)]; assumption)
theorem Box4.set3 {w : World} {b : Nat} {v0 v1 v2 v3 : Value} (h : Box4 w b v0 v1 v2 v3) (u : Value) : Box4 (w.setCell ⟨b, 3, none⟩ u) b v0 v1 v2 u := by
  obtain ⟨⟨h0, h1, h2, h3⟩, f0, f1, f2, f3⟩ := h
  refine ⟨⟨?_, ?_, ?_, World.cell?_setCell_same _ _ _ h3⟩, by rw [World.frozen?_setCell]; exact f0, by rw [World.frozen?_setCell]; exact f1, by rw [World.frozen?_setCell]; exact f2, by rw [World.frozen?_setCell]; exact f3⟩
  all_goals (rw [World.cell?_setCell_other _ _ _ _ (by simp)]; assumption)
/-- while a plane is spoiled: the variable's four fields, the result's variable, the copied pixels -/
structure SpS (W w : World) (p : Nat) (a : Option Addr) (cap : Nat) (xs : List Int) (g k : Nat) (L : List Int) (v0 v1 v2 v3 : Value) (w' : World) : Prop where
  tape : TapeSome W w' p a cap xs
  grown : w.grownBy w' (some p)
  box : Box4 w' w.heap.size v0 v1 v2 v3
  op : Open4 w' (w.heap.size + 1)
  pix : PixAt w.heap.size w' g k L
  far : (¬ g = p ∧ w.heap.size + 1 < g) ∧ (p < w.heap.size ∧ W.heap.size ≤ w.heap.size)
theorem SpS.call {W w : World} {p : Nat} {a : Option Addr} {cap : Nat} {xs : List Int} {g k : Nat} {L : List Int} {v0 v1 v2 v3 : Value} {w1 w2 : World} (h : SpS W w p a cap xs g k L v0 v1 v2 v3 w1) (hT : TapeSome W w2 p a cap xs) (hg : w1.grownBy w2 (some p)) : SpS W w p a cap xs g k L v0 v1 v2 v3 w2 := by
  obtain ⟨⟨f1, f2⟩, f3, f4⟩ := h.far
  exact ⟨hT, gthen h.grown hg, h.box.grown hg (by simp; omega), h.op.grown hg (by simp; omega), h.pix.grown hg (by simpa using f1), h.far⟩
theorem SpS.alloc {W w : World} {p : Nat} {a : Option Addr} {cap : Nat} {xs : List Int} {g k : Nat} {L : List Int} {v0 v1 v2 v3 : Value} {w1 : World} (h : SpS W w p a cap xs g k L v0 v1 v2 v3 w1) (o : Obj) : SpS W w p a cap xs g k L v0 v1 v2 v3 (w1.alloc o) :=
  h.call (h.tape.alloc o) (galloc (gref w1 _) o)
/-- one field of the variable is written -/
theorem SpS.field {W w : World} {p : Nat} {a : Option Addr} {cap : Nat} {xs : List Int} {g k : Nat} {L : List Int} {v0 v1 v2 v3 : Value} {w1 : World} (h : SpS W w p a cap xs g k L v0 v1 v2 v3 w1) {j : Nat} {u u0 u1 u2 u3 : Value} (hb : Box4 (w1.setCell ⟨w.heap.size, j, none⟩ u) w.heap.size u0 u1 u2 u3) :
    SpS W w p a cap xs g k L u0 u1 u2 u3 (w1.setCell ⟨w.heap.size, j, none⟩ u) := by
  obtain ⟨⟨f1, f2⟩, f3, f4⟩ := h.far
  exact ⟨h.tape.grown (by omega) (by omega) _ _, gset h.grown (.inl (Nat.le_refl _)) _ _, hb, h.op.set _ _, h.pix.grown (grown_set _ _ _ _) (by simp; omega), h.far⟩
theorem spoil_end {W w : World} {p : Nat} {a : Option Addr} {cap : Nat} {xs : List Int} {g k : Nat} {L : List Int} {c h m : Int} {sl : Option Addr} {K : List Int} {k2 : Nat} {v0 v1 v2 v3 : Value} {w1 : World} (hS : SpS W w p a cap xs g k L v0 v1 v2 v3 w1)
    (hsl : SliceIs (put4 w1 (w.heap.size + 1) (.int .i64 c) (.int .i64 h) (.int .i64 m) (.slice sl K.length k2)) sl K) (hl : K.length ≤ 4097)
    (hc : -9223372036854775808 ≤ c ∧ c ≤ 9223372036854775807) (hh : -9223372036854775808 ≤ h ∧ h ≤ 9223372036854775807) (hm : -9223372036854775808 ≤ m ∧ m ≤ 9223372036854775807) (hfr : ∀ b o, sl = some ⟨b, o, none⟩ → w.heap.size ≤ b) :
    SpoilOf W p a cap xs w (.returned (.agg #[.int .i64 c, .int .i64 h, .int .i64 m, .slice sl K.length k2])) (put4 w1 (w.heap.size + 1) (.int .i64 c) (.int .i64 h) (.int .i64 m) (.slice sl K.length k2)) := by
  obtain ⟨⟨f1, f2⟩, f3, f4⟩ := hS.far
  exact ⟨c, h, m, K, sl, k2, rfl, hsl, hl, hc, hh, hm, hS.tape.put (by omega) (by omega) _ _ _ _, gput4 hS.grown (.inl (by omega)) _ _ _ _, hfr⟩
theorem spoil_pix {W w : World} {p : Nat} {a : Option Addr} {cap : Nat} {xs : List Int} {g k : Nat} {L : List Int} {v0 v1 v2 v3 u0 u1 u2 u3 : Value} {w1 : World} (hS : SpS W w p a cap xs g k L v0 v1 v2 v3 w1) : SliceIs (put4 w1 (w.heap.size + 1) u0 u1 u2 u3) (some ⟨g, 0, none⟩) L := by
  obtain ⟨⟨f1, f2⟩, f3, f4⟩ := hS.far
  exact (hS.pix.grown (gput4 (gref w1 (some (w.heap.size + 1))) (.inr rfl) u0 u1 u2 u3) (by simp; omega)).isS
theorem spoil_far {W w : World} {p : Nat} {a : Option Addr} {cap : Nat} {xs : List Int} {g k : Nat} {L : List Int} {v0 v1 v2 v3 : Value} {w1 : World} (hS : SpS W w p a cap xs g k L v0 v1 v2 v3 w1) : ∀ b o, (some ⟨g, 0, none⟩ : Option Addr) = some ⟨b, o, none⟩ → w.heap.size ≤ b := fun b o e => by
  simp at e
  have := hS.far
  omega
theorem three_kept {w : World} {cs ds es : Array Value} {t t' t'' : TypeId} {w1 : World} (hg : (((w.alloc (.cells cs t)).alloc (.cells ds t')).alloc (.cells es t'')).grownBy w1 (some (w.heap.size + 1 + 1))) :
    w1.heap[w.heap.size]? = some (.cells cs t) ∧ w1.heap[w.heap.size + 1]? = some (.cells ds t') := by
  have h0 := (MapKept.heap_alloc (w.alloc (.cells cs t)) (.cells ds t'))
  have h1 := (MapKept.heap_alloc ((w.alloc (.cells cs t)).alloc (.cells ds t')) (.cells es t''))
  constructor
  · rw [hg.block w.heap.size (by simp; omega) (by simp; omega), h1.2 w.heap.size (by simp; omega), h0.2 w.heap.size (by simp)]
    exact heap_alloc_new w _
  · rw [hg.block (w.heap.size + 1) (by simp) (by simp), h1.2 (w.heap.size + 1) (by simp)]
    have := heap_alloc_new (w.alloc (.cells cs t)) (.cells ds t')
    simpa using this
open Go.ChangeShapes Go.WideShapes Go.ChangeAt Go.RowKit
set_option linter.unusedVariables false
set_option linter.unusedSimpArgs false

theorem pick_four' (W : World) (p : Nat) (a : Option Addr) (cap : Nat) (xs : List Int) (y0 y1 y2 y3 : Int) (s c : Nat) (w : World) (h : TapeSome W w p a cap xs) (hsp : ¬ s = p)
    (h0 : w.cell? ⟨s, 0, none⟩ = some (.int .i64 y0)) (h1 : w.cell? ⟨s, 1, none⟩ = some (.int .i64 y1)) (h2 : w.cell? ⟨s, 2, none⟩ = some (.int .i64 y2)) (h3 : w.cell? ⟨s, 3, none⟩ = some (.int .i64 y3)) :
    Calls Try.prog 11 #[.pointer (some ⟨p, 0, none⟩), .slice (some ⟨s, 0, none⟩) 4 c] w
      fun e w' => ∃ m : Int, e = .returned (.int .i64 m) ∧ (m = y0 ∨ m = y1 ∨ m = y2 ∨ m = y3) ∧ TapeSome W w' p a cap xs ∧ w.grownBy w' (some p) := by
  have := pick_some W p a cap xs s c [y0, y1, y2, y3] w h hsp (by simp) (by simp) (by
    intro j hj
    simp at hj
    rcases (show j = 0 ∨ j = 1 ∨ j = 2 ∨ j = 3 by omega) with rfl | rfl | rfl | rfl <;> simpa)
  refine this.mono fun e w' ⟨m, he, hm, hT, hg⟩ => ⟨m, he, ?_, hT, hg⟩
  simpa using hm
theorem SpS.drewn {W w : World} {p : Nat} {a : Option Addr} {cap : Nat} {xs : List Int} {g k : Nat} {L : List Int} {v0 v1 v2 v3 : Value} {w1 : World} (h : SpS W w p a cap xs g k L v0 v1 v2 v3 w1) : SpS W w p a cap xs g k L v0 v1 v2 v3 w1.drew :=
  h.call h.tape.drewn (gdrew (gref w1 _))
/-- a pixel is written -/
theorem SpS.pixel {W w : World} {p : Nat} {a : Option Addr} {cap : Nat} {xs : List Int} {g k : Nat} {L : List Int} {v0 v1 v2 v3 : Value} {w1 : World} (h : SpS W w p a cap xs g k L v0 v1 v2 v3 w1) (j : Nat) (u : Int) :
    SpS W w p a cap xs g k (L.set j u) v0 v1 v2 v3 (w1.setCell ⟨g, j, none⟩ (.int .i64 u)) := by
  obtain ⟨⟨f1, f2⟩, f3, f4⟩ := h.far
  have hg := grown_set w1 g j (.int .i64 u)
  exact ⟨h.tape.grown (by omega) (by omega) _ _, gset h.grown (.inl (by omega)) _ _, h.box.grown hg (by simp; omega), h.op.set _ _, (h.pix.store j u).1, h.far⟩
/-- while a pixel is drawn: the fields that are read, every pixel's cell, and hidden all the rest -/
abbrev SpR (W w : World) (p : Nat) (a : Option Addr) (cap : Nat) (xs : List Int) (g k n : Nat) (c h m : Int) (w' : World) : Prop :=
  Hid (∃ L : List Int, L.length = n ∧ SpS W w p a cap xs g k L (.int .i64 c) (.int .i64 h) (.int .i64 m) (.slice (some ⟨g, 0, none⟩) n k) w') ∧ w'.cell? ⟨w.heap.size, 2, none⟩ = some (.int .i64 m) ∧ w'.cell? ⟨w.heap.size, 3, none⟩ = some (.slice (some ⟨g, 0, none⟩) n k)
theorem spr_at {W w : World} {p : Nat} {a : Option Addr} {cap : Nat} {xs : List Int} {g k n : Nat} {c h m : Int} {w1 : World} (hR : SpR W w p a cap xs g k n c h m w1) {j : Nat} (hj : (j : Int) < n) : w1.cell? ⟨g, j, none⟩ = some (valAt w1 g j) ∧ w1.frozen? ⟨g, j, none⟩ = false := by
  obtain ⟨L, hn, hS⟩ := hR.1.out
  exact ⟨szS_val (hS.pix.cell (k := j) (by omega)), hS.pix.frozen j⟩
theorem spr_of {W w : World} {p : Nat} {a : Option Addr} {cap : Nat} {xs : List Int} {g k n : Nat} {L : List Int} {c h m : Int} {w1 : World} (hn : L.length = n) (hS : SpS W w p a cap xs g k L (.int .i64 c) (.int .i64 h) (.int .i64 m) (.slice (some ⟨g, 0, none⟩) n k) w1) : SpR W w p a cap xs g k n c h m w1 :=
  ⟨Lib.hid ⟨L, hn, hS⟩, hS.box.1.2.2.1, hS.box.1.2.2.2⟩
theorem spr_call {W w : World} {p : Nat} {a : Option Addr} {cap : Nat} {xs : List Int} {g k n : Nat} {c h m : Int} {w1 w2 : World} (hT : TapeSome W w2 p a cap xs) (hg : w1.grownBy w2 (some p)) (hR : SpR W w p a cap xs g k n c h m w1) : SpR W w p a cap xs g k n c h m w2 := by
  obtain ⟨L, hn, hS⟩ := hR.1.out
  exact spr_of hn (hS.call hT hg)
theorem spr_alloc {W w : World} {p : Nat} {a : Option Addr} {cap : Nat} {xs : List Int} {g k n : Nat} {c h m : Int} {w1 : World} (hR : SpR W w p a cap xs g k n c h m w1) (o : Obj) : SpR W w p a cap xs g k n c h m (w1.alloc o) := by
  obtain ⟨L, hn, hS⟩ := hR.1.out
  exact spr_of hn (hS.alloc o)
theorem spr_drew {W w : World} {p : Nat} {a : Option Addr} {cap : Nat} {xs : List Int} {g k n : Nat} {c h m : Int} {w1 : World} (hR : SpR W w p a cap xs g k n c h m w1) : SpR W w p a cap xs g k n c h m w1.drew := by
  obtain ⟨L, hn, hS⟩ := hR.1.out
  exact spr_of hn hS.drewn
theorem spr_set {W w : World} {p : Nat} {a : Option Addr} {cap : Nat} {xs : List Int} {g k n : Nat} {c h m : Int} {w1 : World} (hR : SpR W w p a cap xs g k n c h m w1) (j : Nat) (u : Int) : SpR W w p a cap xs g k n c h m (w1.setCell ⟨g, j, none⟩ (.int .i64 u)) := by
  obtain ⟨L, hn, hS⟩ := hR.1.out
  exact spr_of (by rw [List.length_set]; exact hn) (hS.pixel j u)
theorem spr_far {W w : World} {p : Nat} {a : Option Addr} {cap : Nat} {xs : List Int} {g k n : Nat} {c h m : Int} {w1 : World} {o : Obj} (hR : SpR W w p a cap xs g k n c h m (w1.alloc o)) : ¬ w1.heap.size = p := by
  obtain ⟨L, hn, hS⟩ := hR.1.out
  have h1 := World.block_lt_of_cell? _ _ hS.box.1.1
  have h2 := hS.far.2.1
  simp at h1
  omega
theorem spr_tape {W w : World} {p : Nat} {a : Option Addr} {cap : Nat} {xs : List Int} {g k n : Nat} {c h m : Int} {w1 : World} (hR : SpR W w p a cap xs g k n c h m w1) : TapeSome W w1 p a cap xs := by
  obtain ⟨L, hn, hS⟩ := hR.1.out
  exact hS.tape
theorem next_nat (W : World) (p : Nat) (a : Option Addr) (cap : Nat) (xs : List Int) (n : Int) (w : World) (h : TapeSome W w p a cap xs) (h0 : 1 ≤ n) (h1 : n ≤ 9223372036854775807) :
    Calls Try.prog 9 #[.pointer (some ⟨p, 0, none⟩), .int .i64 n] w fun e w' => ∃ j : Nat, e = .returned (.int .i64 (j : Int)) ∧ (j : Int) < n ∧ TapeSome W w' p a cap xs ∧ w.grownBy w' (some p) :=
  (next_some W p a cap xs n w h h0 h1).mono fun e w' ⟨m, he, ⟨m0, m1⟩, hT, hg⟩ => ⟨m.toNat, by rw [he]; congr 2; omega, by omega, hT, hg⟩
theorem pick_3 (W : World) (p : Nat) (a : Option Addr) (cap : Nat) (xs : List Int) (y0 y1 y2 : Int) (c : Nat) (w : World) (t : TypeId) (h : TapeSome W (w.alloc (.cells #[.int .i64 y0, .int .i64 y1, .int .i64 y2] t)) p a cap xs) (hsp : ¬ w.heap.size = p) :
    Calls Try.prog 11 #[.pointer (some ⟨p, 0, none⟩), .slice (some ⟨w.heap.size, 0, none⟩) 3 c] (w.alloc (.cells #[.int .i64 y0, .int .i64 y1, .int .i64 y2] t))
      fun e w' => ∃ m : Int, e = .returned (.int .i64 m) ∧ TapeSome W w' p a cap xs ∧ (w.alloc (.cells #[.int .i64 y0, .int .i64 y1, .int .i64 y2] t)).grownBy w' (some p) := by
  have := pick_some W p a cap xs w.heap.size c [y0, y1, y2] _ h hsp (by simp) (by simp) (by
    intro j hj
    simp at hj
    rcases (show j = 0 ∨ j = 1 ∨ j = 2 by omega) with rfl | rfl | rfl <;> simp [World.cell?_alloc_new])
  exact this.mono fun e w' ⟨m, he, hm, hT, hg⟩ => ⟨m, he, hT, hg⟩
theorem pick_spr {W w : World} {p : Nat} {a : Option Addr} {cap : Nat} {xs : List Int} {g k n : Nat} {c h m : Int} {w1 : World} (y0 y1 y2 : Int) (z : Nat) (t : TypeId) (j : Nat) (hj : (j : Int) < n)
    (hR : SpR W w p a cap xs g k n c h m (w1.alloc (.cells #[.int .i64 y0, .int .i64 y1, .int .i64 y2] t))) :
    Calls Try.prog 11 #[.pointer (some ⟨p, 0, none⟩), .slice (some ⟨w1.heap.size, 0, none⟩) 3 z] (w1.alloc (.cells #[.int .i64 y0, .int .i64 y1, .int .i64 y2] t))
      fun e w' => ∃ u : Int, e = .returned (.int .i64 u) ∧ TapeSome W w' p a cap xs ∧ (w1.alloc (.cells #[.int .i64 y0, .int .i64 y1, .int .i64 y2] t)).grownBy w' (some p) ∧ w'.cell? ⟨g, j, none⟩ = some (valAt w' g j) ∧ w'.frozen? ⟨g, j, none⟩ = false :=
  (pick_3 W p a cap xs y0 y1 y2 z w1 t (spr_tape hR) (spr_far hR)).mono fun e w' ⟨u, he, hT, hg⟩ => by
    obtain ⟨h1, h2⟩ := spr_at (spr_call hT hg hR) hj
    exact ⟨u, he, hT, hg, h1, h2⟩
theorem three_at {w1 w4 : World} {p : Nat} {y0 y1 y2 : Value} {t : TypeId} (hg : (w1.alloc (.cells #[y0, y1, y2] t)).grownBy w4 (some p)) (hne : ¬ w1.heap.size = p) :
    w4.cell? ⟨w1.heap.size, 0, none⟩ = some y0 ∧ w4.cell? ⟨w1.heap.size, 1, none⟩ = some y1 ∧ w4.cell? ⟨w1.heap.size, 2, none⟩ = some y2 :=
  ⟨hg.cell (by simp [World.cell?_alloc_new]) (by simpa using hne), hg.cell (by simp [World.cell?_alloc_new]) (by simpa using hne), hg.cell (by simp [World.cell?_alloc_new]) (by simpa using hne)⟩
theorem three_atd {w1 w4 : World} {p : Nat} {y0 y1 y2 : Value} {t : TypeId} (hg : (w1.alloc (.cells #[y0, y1, y2] t)).drew.grownBy w4 (some p)) (hne : ¬ w1.heap.size = p) :
    w4.cell? ⟨w1.heap.size, 0, none⟩ = some y0 ∧ w4.cell? ⟨w1.heap.size, 1, none⟩ = some y1 ∧ w4.cell? ⟨w1.heap.size, 2, none⟩ = some y2 :=
  three_at (t := t) ⟨hg.os, hg.tape, hg.output, hg.size, hg.block⟩ hne
theorem pick_sprB {W w : World} {p : Nat} {a : Option Addr} {cap : Nat} {xs : List Int} {g k n : Nat} {c h m : Int} {w1 : World} (y0 y1 y2 : Int) (s z : Nat) (hs : w1.cell? ⟨s, 0, none⟩ = some (.int .i64 y0) ∧ w1.cell? ⟨s, 1, none⟩ = some (.int .i64 y1) ∧ w1.cell? ⟨s, 2, none⟩ = some (.int .i64 y2)) (hsp : ¬ s = p) (j : Nat) (hj : (j : Int) < n)
    (hR : SpR W w p a cap xs g k n c h m w1) :
    Calls Try.prog 11 #[.pointer (some ⟨p, 0, none⟩), .slice (some ⟨s, 0, none⟩) 3 z] w1
      fun e w' => ∃ u : Int, e = .returned (.int .i64 u) ∧ TapeSome W w' p a cap xs ∧ w1.grownBy w' (some p) ∧ w'.cell? ⟨g, j, none⟩ = some (valAt w' g j) ∧ w'.frozen? ⟨g, j, none⟩ = false :=
  (pick_three W p a cap xs y0 y1 y2 s z w1 (spr_tape hR) hsp hs.1 hs.2.1 hs.2.2).mono fun e w' ⟨u, he, _, hT, hg⟩ => by
    obtain ⟨h1, h2⟩ := spr_at (spr_call hT hg hR) hj
    exact ⟨u, he, hT, hg, h1, h2⟩
theorem grown_fresh {w a b : World} {row : Option Nat} {g : Nat} (h : w.grownBy a row) (k : a.grownBy b (some g)) (hg : w.heap.size ≤ g) : w.grownBy b row :=
  ⟨k.os.trans h.os, k.tape.trans h.tape, k.output.trans h.output, Nat.le_trans h.size k.size, fun i hi hne => (k.block i (Nat.lt_of_lt_of_le hi h.size) (by simp; omega)).trans (h.block i hi hne)⟩
theorem TapeSome.keepg {W w w' : World} {p : Nat} {a : Option Addr} {cap : Nat} {xs : List Int} (h : TapeSome W w p a cap xs) {g : Nat} (hg : w.grownBy w' (some g)) (h1 : W.heap.size ≤ g) (h2 : ¬ g = p) : TapeSome W w' p a cap xs := by
  obtain ⟨k, hk⟩ := h
  exact ⟨k, hk.keep hg (fun q e => by simp at e; subst e; exact ⟨h1, h2⟩)⟩
/-- one more pixel was appended -/
theorem spoil_more {W w : World} {p : Nat} {a : Option Addr} {cap : Nat} {xs : List Int} {g k : Nat} {L : List Int} {v0 v1 v2 v3 : Value} {w3 w4 : World} {g' k' : Nat} {o : Obj} (h : SpS W w p a cap xs g k L v0 v1 v2 v3 w3)
    (hown : w4.ownsRow w.heap.size 3 1 (.slice (some ⟨g', 0, none⟩) (L.length + 1) k') (L.length + 1) (ints L ++ [.int .i64 0])) (hg : (w3.alloc o).grownBy w4 (Value.ownBlock (.slice (some ⟨g, 0, none⟩) L.length k))) (hat : Value.ownBlock (.slice (some ⟨g, 0, none⟩) L.length k) = some g' ∨ g' = w3.heap.size + 1) :
    SpS W w p a cap xs g' k' (L ++ [0]) v0 v1 v2 v3 w4 := by
  obtain ⟨⟨f1, f2⟩, f3, f4⟩ := h.far
  have h1 := h.alloc o
  have hg' : (w3.alloc o).grownBy w4 (some g) := hg
  have hgl := h.pix.lt
  have hpl := h.tape.lt.1
  refine ⟨h1.tape.keepg hg' (by omega) f1, grown_fresh h1.grown hg' (by omega), h1.box.grown hg' (by simp; omega), h1.op.grown hg' (by simp; omega), ?_, ?_⟩
  · unfold PixAt
    simpa [ints] using hown
  · rcases hat with hat | hat
    · simp [Value.ownBlock] at hat; omega
    · omega
theorem spoil_end' {W w : World} {p : Nat} {a : Option Addr} {cap : Nat} {xs : List Int} {g k : Nat} {L : List Int} {c h m : Int} {sl : Option Addr} {K : List Int} {n k2 : Nat} {v0 v1 v2 v3 : Value} {w1 : World} (hn : K.length = n) (hS : SpS W w p a cap xs g k L v0 v1 v2 v3 w1)
    (hsl : SliceIs (put4 w1 (w.heap.size + 1) (.int .i64 c) (.int .i64 h) (.int .i64 m) (.slice sl n k2)) sl K) (hl : K.length ≤ 4097)
    (hc : -9223372036854775808 ≤ c ∧ c ≤ 9223372036854775807) (hh : -9223372036854775808 ≤ h ∧ h ≤ 9223372036854775807) (hm : -9223372036854775808 ≤ m ∧ m ≤ 9223372036854775807) (hfr : ∀ b o, sl = some ⟨b, o, none⟩ → w.heap.size ≤ b) :
    SpoilOf W p a cap xs w (.returned (.agg #[.int .i64 c, .int .i64 h, .int .i64 m, .slice sl n k2])) (put4 w1 (w.heap.size + 1) (.int .i64 c) (.int .i64 h) (.int .i64 m) (.slice sl n k2)) := by
  subst hn; exact spoil_end hS hsl hl hc hh hm hfr
set_option maxHeartbeats 4000000 in
theorem spoil_any (W : World) (p : Nat) (a : Option Addr) (cap : Nat) (xs : List Int) (c h m : Int) (L : List Int) (sl : Option Addr) (c0 : Nat) (w : World) (hT : TapeSome W w p a cap xs) (hs : SliceIs w sl L) (l1 : 1 ≤ L.length) (l2 : L.length ≤ 4096)
    (x0 : 1 ≤ c ∧ c ≤ 128) (x1 : 1 ≤ h ∧ h ≤ 128) (x2 : 1 ≤ m ∧ m ≤ 65535) :
    Calls Try.prog 19 #[.pointer (some ⟨p, 0, none⟩), .agg #[.int .i64 c, .int .i64 h, .int .i64 m, .slice sl L.length c0]] w (SpoilOf W p a cap xs w) := by
  obtain ⟨b, off, rfl, hc⟩ := slice_some hs l1
  have hc' := Lib.hid hc
  have hT' := Lib.hid hT
  have hlt := hT.lt
  obtain ⟨i0, hi, hi0, hi1, hi2⟩ := info_parts infoI
  clear hc hs hT
  have hE := World.ownsRow_lit (base := w.heap.size) (e := 3) (size := 1) ((w.alloc (.cells #[.int .i64 c, .int .i64 h, .int .i64 m, .slice (some ⟨b, off, none⟩) L.length c0] 35)).alloc (.cells #[.int .i64 0, .int .i64 0, .int .i64 0, .slice none 0 0] 35)) #[] 0 (by simp; omega) (by unfold maxLen; omega) (by simp)
  simp only [World.size_alloc] at hE
  have hE' := Lib.hid hE
  clear hE
  go_enter Try.func19, Try.ntmps19
  go_wp2_with (at_builtin; go_must (refine wpList_append_lies _ rfl _ _ _ rfl w.heap.size 3 i0 (.int .i64 0) 1 8 Try.underlying22 hi hi0 hi1 hi2 rfl (by decide) (.slice (some ⟨w.heap.size + 1 + 1, 0, none⟩) 0 0) 0 [] rfl hE'.out ⟨b, off, none⟩ L.length c0 (ints L) rfl (by simp [ints]) (news_ints (fun k hk => by have h0 := hc'.out k hk; rw [(balloc (balloc (balloc (bref w) _) _) _).cell (World.block_lt_of_cell? _ _ h0)]; exact h0)) ints_one (by omega) (by unfold maxLen; omega) (by omega) (by simp; omega) (w.heap.size + 1 + 1 + 1) (by simp) ?_; intro g k w1 hown hgrow hat hltg; obtain ⟨q0, q1⟩ := three_kept hgrow; have hB0 := Box4.of q0; have hB0' := Lib.hid hB0; have hB1 := (Box4.of q1).op; obtain ⟨⟨z0, z1, z2, z3⟩, f0, f1, f2, f3⟩ := hB0))
  have hB : Below w.heap.size w w1 := (balloc (balloc (balloc (bref w) _) _) _).grown hgrow (by simp; omega) (fun q e => by simp [Value.ownBlock] at e; omega)
  have hg : w.heap.size + 1 < g := by
    rcases hat with hat | hat
    · simp [Value.ownBlock] at hat; omega
    · omega
  have hS1 : SpS W w p a cap xs g k L (.int .i64 c) (.int .i64 h) (.int .i64 m) (.slice (some ⟨b, off, none⟩) L.length c0) w1 :=
    ⟨hT'.out.more hB, bgrown hB _, hB0'.out, hB1, by simpa [PixAt] using hown, by omega⟩
  have hS2 := Lib.hid (hS1.field (hS1.box.set3 (.slice (some ⟨g, 0, none⟩) L.length k)))
  clear hS1 hB hown hgrow hat hltg q0 q1 hB1 z0 z1 z2 z3 f0 f1 f2 f3 hB0'
  refine (next_some W p a cap xs _ _ hS2.out.tape (by omega) (by omega)).mono ?_; rintro e w3 ⟨d, rfl, ⟨d0, d1⟩, hT3, hg3⟩
  have hS3 := Lib.hid (hS2.out.call hT3 hg3)
  clear hS2 hT3 hg3
  have hp3 := hS3.out.tape.lt.1
  obtain ⟨⟨z0, z1, z2, z3⟩, f0, f1, f2, f3⟩ := hS3.out.box
  rcases (show d = 0 ∨ d = 1 ∨ d = 2 ∨ d = 3 ∨ d = 4 ∨ d = 5 by omega) with hd | hd | hd | hd | hd | hd
  · subst hd
    go_wp2_with fail
    refine (pick_four' W p a cap xs 0 (c + 1) (-1) 129 _ _ _ (hS3.out.tape.alloc _) (by omega) (by go_cell) (by go_cell) (by go_cell) (by go_cell)).mono ?_; rintro e w4 ⟨u, rfl, hu, hT4, hg4⟩
    have hS4 := Lib.hid ((hS3.out.alloc _).call hT4 hg4)
    clear z0 z1 z2 z3 f0 f1 f2 f3 hT4 hg4
    obtain ⟨⟨z0, z1, z2, z3⟩, f0, f1, f2, f3⟩ := hS4.out.box
    obtain ⟨⟨v0, o0, r0⟩, ⟨v1, o1, r1⟩, ⟨v2, o2, r2⟩, ⟨v3, o3, r3⟩⟩ := open_cells hS4.out.op
    have hne : ¬ w.heap.size = w.heap.size + 1 := by omega
    go_wp2_with fail
    refine ret_plane Try.results19 rfl rfl (hS4.out.op.set _ _) (spoil_end (hS4.out.field (hS4.out.box.set0 _)) (spoil_pix (hS4.out.field (hS4.out.box.set0 _))) (by omega) (by omega) (by omega) (by omega) (spoil_far hS4.out))
  · subst hd
    go_wp2_with fail
    refine (pick_three W p a cap xs 0 (h + 1) 4611686018427387904 _ _ _ (hS3.out.tape.alloc _) (by omega) (by go_cell) (by go_cell) (by go_cell)).mono ?_; rintro e w4 ⟨u, rfl, hu, hT4, hg4⟩
    have hS4 := Lib.hid ((hS3.out.alloc _).call hT4 hg4)
    clear z0 z1 z2 z3 f0 f1 f2 f3 hT4 hg4
    obtain ⟨⟨z0, z1, z2, z3⟩, f0, f1, f2, f3⟩ := hS4.out.box
    obtain ⟨⟨v0, o0, r0⟩, ⟨v1, o1, r1⟩, ⟨v2, o2, r2⟩, ⟨v3, o3, r3⟩⟩ := open_cells hS4.out.op
    have hne : ¬ w.heap.size = w.heap.size + 1 := by omega
    go_wp2_with fail
    refine ret_plane Try.results19 rfl rfl (hS4.out.op.set _ _) (spoil_end (hS4.out.field (hS4.out.box.set1 _)) (spoil_pix (hS4.out.field (hS4.out.box.set1 _))) (by omega) (by omega) (by omega) (by omega) (spoil_far hS4.out))
  · subst hd
    go_wp2_with fail
    refine (pick_four' W p a cap xs 0 4294967297 (-1) 3 _ _ _ (hS3.out.tape.alloc _) (by omega) (by go_cell) (by go_cell) (by go_cell) (by go_cell)).mono ?_; rintro e w4 ⟨u, rfl, hu, hT4, hg4⟩
    have hS4 := Lib.hid ((hS3.out.alloc _).call hT4 hg4)
    clear z0 z1 z2 z3 f0 f1 f2 f3 hT4 hg4
    obtain ⟨⟨z0, z1, z2, z3⟩, f0, f1, f2, f3⟩ := hS4.out.box
    obtain ⟨⟨v0, o0, r0⟩, ⟨v1, o1, r1⟩, ⟨v2, o2, r2⟩, ⟨v3, o3, r3⟩⟩ := open_cells hS4.out.op
    have hne : ¬ w.heap.size = w.heap.size + 1 := by omega
    go_wp2_with fail
    refine ret_plane Try.results19 rfl rfl (hS4.out.op.set _ _) (spoil_end (hS4.out.field (hS4.out.box.set2 _)) (spoil_pix (hS4.out.field (hS4.out.box.set2 _))) (by omega) (by omega) (by omega) (by omega) (spoil_far hS4.out))
  · subst hd
    have hgl := hS3.out.pix.lt
    have hne : ¬ w.heap.size = w.heap.size + 1 := by omega
    go_wp2_with (at_builtin; go_must (refine wpList_append_lies _ rfl _ _ _ rfl w.heap.size 3 i0 (.int .i64 0) 1 8 Try.underlying22 hi hi0 hi1 hi2 rfl (by decide) (.slice (some ⟨g, 0, none⟩) L.length k) L.length (ints L) rfl (hS3.out.alloc (.cells #[.int .i64 0] 3)).pix ⟨w3.heap.size, 0, none⟩ 1 1 [.int .i64 0] rfl (by simp) (World.news_of_block (cs := #[.int .i64 0]) (heap_alloc_new _ _)) (by intro u hu; simp at hu; subst hu; rfl) (by omega) (by unfold maxLen; omega) (by omega) (by simp; omega) (w3.heap.size + 1) (by simp) ?_; intro g' k' w4 hown hgrow hat hltg; have hS4 := Lib.hid (spoil_more hS3.out hown hgrow hat); clear z0 z1 z2 z3 f0 f1 f2 f3; obtain ⟨⟨z0, z1, z2, z3⟩, f0, f1, f2, f3⟩ := hS4.out.box; obtain ⟨⟨v0, o0, r0⟩, ⟨v1, o1, r1⟩, ⟨v2, o2, r2⟩, ⟨v3, o3, r3⟩⟩ := open_cells hS4.out.op))
    refine ret_plane Try.results19 rfl rfl (hS4.out.op.set _ _) (spoil_end' (K := L ++ [0]) (by simp) (hS4.out.field (hS4.out.box.set3 _)) (spoil_pix (hS4.out.field (hS4.out.box.set3 _))) (by simp; omega) (by omega) (by omega) (by omega) (spoil_far hS4.out))
  · subst hd
    have hgl := hS3.out.pix.lt
    have hne : ¬ w.heap.size = w.heap.size + 1 := by omega
    have hlp : (L.length : Int) > 0 := by omega
    have np : ¬ w3.heap.size = p := by omega
    have hm1 : IntKind.i64.wrap (m + 1) = m + 1 := IntWalk.i64_in _ (by omega)
    go_upto_region 14 with fail
    have hR : SpR W w p a cap xs g k L.length c h m w3.drew := spr_drew (spr_of rfl hS3.out)
    have hRR := Lib.hid hR
    have hRA := Lib.hid (spr_drew (spr_alloc (spr_of rfl hS3.out) (.cells #[.int .i64 (-1), .int .i64 (m + 1), .int .i64 m] 3)))
    clear z0 z1 z2 z3 f0 f1 f2 f3
    first | go_must (go_region_held3 (fun w' => SpR W w p a cap xs g k L.length c h m w') ((first | with_reducible exact hRR.out | with_reducible exact hRA.out | with_reducible exact spr_set ‹_› _ _ | with_reducible exact spr_alloc ‹_› _ | with_reducible exact spr_call hT5 hg5 ‹_› | with_reducible exact spr_call hT4 hg4 ‹_›))
      (first
        | (go_at_call 9; refine (next_nat W p a cap xs _ _ (spr_tape ‹SpR W w p a cap xs g k L.length c h m _›) (by omega) (by omega)).mono ?_; rintro e w4 ⟨jn, rfl, j1, hT4, hg4⟩)
        | (go_at_call 11; refine (pick_spr _ _ _ _ _ jn (by omega) ‹SpR W w p a cap xs g k L.length c h m _›).mono ?_; rintro e w5 ⟨u, rfl, hT5, hg5, hdc5, hdf5⟩)
        | (go_at_call 11; refine (pick_sprB _ _ _ w3.heap.size _ (three_atd hg4 np) np jn (by omega) ‹SpR W w p a cap xs g k L.length c h m _›).mono ?_; rintro e w5 ⟨u, rfl, hT5, hg5, hdc5, hdf5⟩))) | skip
    all_goals
      have hEnd : SpR W w p a cap xs g k L.length c h m (w5.setCell ⟨g, jn, none⟩ (.int .i64 u)) := by assumption
      obtain ⟨L', hL', hS6'⟩ := hEnd.1.out
      have hS6 := Lib.hid hS6'
      clear hS6' hEnd
      obtain ⟨⟨z0, z1, z2, z3⟩, f0, f1, f2, f3⟩ := hS6.out.box
      obtain ⟨⟨v0, o0, r0⟩, ⟨v1, o1, r1⟩, ⟨v2, o2, r2⟩, ⟨v3, o3, r3⟩⟩ := open_cells hS6.out.op
      go_wp2_with fail
      refine ret_plane Try.results19 rfl rfl hS6.out.op (spoil_end' hL' hS6.out (by have := spoil_pix (u0 := .int .i64 c) (u1 := .int .i64 h) (u2 := .int .i64 m) (u3 := .slice (some ⟨g, 0, none⟩) L.length k) hS6.out; exact this) (by omega) (by omega) (by omega) (by omega) (spoil_far hS6.out))
  · subst hd
    obtain ⟨⟨v0, o0, r0⟩, ⟨v1, o1, r1⟩, ⟨v2, o2, r2⟩, ⟨v3, o3, r3⟩⟩ := open_cells hS3.out.op
    have hne : ¬ w.heap.size = w.heap.size + 1 := by omega
    go_wp2_with fail
    refine ret_plane Try.results19 rfl rfl (hS3.out.op.set _ _) (spoil_end (K := []) (hS3.out.field (hS3.out.box.set3 _)) (fun j hj => by simp at hj) (by simp) (by omega) (by omega) (by omega) (fun b o e => by simp at e))
open Go.ChangeShapes Go.WideShapes Go.ChangeAt Go.RowKit
set_option linter.unusedVariables false
set_option linter.unusedSimpArgs false

/-- a thing that lies in a block of its own -/
inductive Th where
  | box (b : Nat) (v0 v1 v2 v3 : Value)
  | two (b : Nat) (v0 v1 : Value)
  | pix (g cap : Nat) (L : List Int)
def Th.blk : Th → Nat
  | .box b _ _ _ _ => b
  | .two b _ _ => b
  | .pix g _ _ => g
def Box2 (w : World) (b : Nat) (v0 v1 : Value) : Prop := (w.cell? ⟨b, 0, none⟩ = some v0 ∧ w.cell? ⟨b, 1, none⟩ = some v1) ∧ (w.frozen? ⟨b, 0, none⟩ = false ∧ w.frozen? ⟨b, 1, none⟩ = false)
theorem Box2.grown {w w' : World} {b : Nat} {v0 v1 : Value} {row : Option Nat} (h : Box2 w b v0 v1) (hg : w.grownBy w' row) (hne : some b ≠ row) : Box2 w' b v0 v1 := by
  obtain ⟨⟨h0, h1⟩, f0, f1⟩ := h
  have hl := World.block_lt_of_cell? _ _ h0
  refine ⟨⟨hg.cell h0 hne, hg.cell h1 hne⟩, ?_, ?_⟩
  · rw [hg.frozen_far ⟨b, 0, none⟩ hl hne]; exact f0
  · rw [hg.frozen_far ⟨b, 1, none⟩ hl hne]; exact f1
def Th.ok (base : Nat) (w : World) : Th → Prop
  | .box b v0 v1 v2 v3 => Box4 w b v0 v1 v2 v3
  | .two b v0 v1 => Box2 w b v0 v1
  | .pix g cap L => PixAt base w g cap L
theorem Th.ok.grown {base : Nat} {w w' : World} {row : Option Nat} {x : Th} (h : x.ok base w) (hg : w.grownBy w' row) (hne : some x.blk ≠ row) : x.ok base w' := by
  cases x with
  | box b v0 v1 v2 v3 => exact Box4.grown h hg hne
  | two b v0 v1 => exact Box2.grown h hg hne
  | pix g cap L => exact PixAt.grown h hg hne
structure En (base : Nat) (p : Option Nat) (l : List Th) (w : World) : Prop where
  ok : ∀ x ∈ l, Th.ok base w x
  far : ∀ x ∈ l, base ≤ x.blk ∧ some x.blk ≠ p
  nd : l.Pairwise (fun x y => ¬ x.blk = y.blk)
theorem En.nil (base : Nat) (p : Option Nat) (w : World) : En base p [] w := ⟨fun _ h => by simp at h, fun _ h => by simp at h, .nil⟩
theorem En.grown {base : Nat} {p : Option Nat} {l : List Th} {w w' : World} (h : En base p l w) (hg : w.grownBy w' p) : En base p l w' := ⟨fun x hx => (h.ok x hx).grown hg (h.far x hx).2, h.far, h.nd⟩
theorem En.below {base : Nat} {p : Option Nat} {l : List Th} {w w' : World} (h : En base p l w) (hb : Below w.heap.size w w') : En base p l w' := ⟨fun x hx => (h.ok x hx).grown (bgrown hb none) (by simp), h.far, h.nd⟩
theorem En.row {base : Nat} {p : Option Nat} {l : List Th} {w w' : World} {g : Nat} (h : En base p l w) (hg : w.grownBy w' (some g)) (hne : ∀ x ∈ l, ¬ x.blk = g) : En base p l w' := ⟨fun x hx => (h.ok x hx).grown hg (by simpa using hne x hx), h.far, h.nd⟩
theorem En.cons {base : Nat} {p : Option Nat} {l : List Th} {w : World} {x : Th} (h : En base p l w) (hx : x.ok base w) (hf : base ≤ x.blk ∧ some x.blk ≠ p) (hn : ∀ y ∈ l, ¬ x.blk = y.blk) : En base p (x :: l) w :=
  ⟨fun y hy => (List.mem_cons.1 hy).elim (fun e => e ▸ hx) (h.ok y), fun y hy => (List.mem_cons.1 hy).elim (fun e => e ▸ hf) (h.far y), List.pairwise_cons.2 ⟨hn, h.nd⟩⟩
theorem En.tail {base : Nat} {p : Option Nat} {l : List Th} {w : World} {x : Th} (h : En base p (x :: l) w) : En base p l w := ⟨fun y hy => h.ok y (List.mem_cons_of_mem _ hy), fun y hy => h.far y (List.mem_cons_of_mem _ hy), (List.pairwise_cons.1 h.nd).2⟩
theorem En.head {base : Nat} {p : Option Nat} {l : List Th} {w : World} {x : Th} (h : En base p (x :: l) w) : ∀ y ∈ l, ¬ x.blk = y.blk := (List.pairwise_cons.1 h.nd).1
theorem En.perm {base : Nat} {p : Option Nat} {l l' : List Th} {w : World} (h : En base p l w) (hp : l.Perm l') : En base p l' w :=
  ⟨fun y hy => h.ok y (hp.mem_iff.2 hy), fun y hy => h.far y (hp.mem_iff.2 hy), hp.pairwise h.nd (fun h e => h e.symm)⟩
theorem perm_pull {l l' : List Th} {x : Th} (n : Nat) (hl : l[n]? = some x) (he : l.eraseIdx n = l') : l.Perm (x :: l') := by
  subst he
  obtain ⟨hn, e⟩ := List.getElem?_eq_some_iff.1 hl
  subst e
  have e2 : l = l.take n ++ l[n] :: l.drop (n + 1) := by rw [List.getElem_cons_drop, List.take_append_drop]
  rw [List.eraseIdx_eq_take_drop_succ]
  exact (List.Perm.of_eq e2).trans List.perm_middle
theorem En.lt {base : Nat} {p : Option Nat} {l : List Th} {w : World} (h : En base p l w) : ∀ x ∈ l, x.blk < w.heap.size := fun x hx => by
  have hk := h.ok x hx
  cases x with
  | box b v0 v1 v2 v3 => exact World.block_lt_of_cell? _ _ hk.1.1
  | two b v0 v1 => exact World.block_lt_of_cell? _ _ hk.1.1
  | pix g cap L => exact (PixAt.lt hk).2
theorem En.new {base : Nat} {p : Option Nat} {l : List Th} {w : World} (h : En base p l w) (v0 v1 v2 v3 : Value) (t : TypeId) (hb : base ≤ w.heap.size) (hp : some w.heap.size ≠ p) : En base p (.box w.heap.size v0 v1 v2 v3 :: l) (w.alloc (.cells #[v0, v1, v2, v3] t)) :=
  (h.below (balloc (bref w) _)).cons (Box4.of (heap_alloc_new w _)) ⟨hb, hp⟩ (fun y hy => by have := h.lt y hy; show ¬ w.heap.size = y.blk; omega)
theorem En.box {base : Nat} {p : Option Nat} {l : List Th} {w : World} (h : En base p l w) (b : Nat) {v0 v1 v2 v3 : Value} (hx : Th.box b v0 v1 v2 v3 ∈ l) : w.cell? ⟨b, 0, none⟩ = some v0 ∧ w.cell? ⟨b, 1, none⟩ = some v1 ∧ w.cell? ⟨b, 2, none⟩ = some v2 ∧ w.cell? ⟨b, 3, none⟩ = some v3 := (h.ok _ hx).1
theorem En.pix {base : Nat} {p : Option Nat} {l : List Th} {w : World} (h : En base p l w) (g cap : Nat) {L : List Int} (hx : Th.pix g cap L ∈ l) : PixAt base w g cap L := h.ok _ hx
theorem En.isS {base : Nat} {p : Option Nat} {l : List Th} {w : World} (h : En base p l w) (g cap : Nat) {L : List Int} (hx : Th.pix g cap L ∈ l) : SliceIs w (some ⟨g, 0, none⟩) L := (h.pix g cap hx).isS
/-- a walk's state: things, and nothing old has changed -/
structure Sn (W : World) (l : List Th) (w : World) : Prop where
  below : Below W.heap.size W w
  en : En W.heap.size none l w
theorem Sn.start (W : World) : Sn W [] W := ⟨bref W, En.nil _ _ _⟩
theorem Sn.call {W : World} {l : List Th} {w w' : World} (h : Sn W l w) (hb : Below w.heap.size w w') : Sn W l w' := ⟨bthen h.below hb, h.en.below hb⟩
theorem Sn.new {W : World} {l : List Th} {w : World} (h : Sn W l w) (v0 v1 v2 v3 : Value) (t : TypeId) : Sn W (.box w.heap.size v0 v1 v2 v3 :: l) (w.alloc (.cells #[v0, v1, v2, v3] t)) := ⟨balloc h.below _, h.en.new v0 v1 v2 v3 t h.below.size (by simp)⟩
theorem Sn.made {W : World} {l : List Th} {w w' : World} (h : Sn W l w) {g cap : Nat} {L : List Int} (hp : PixAt w.heap.size w' g cap L) (hb : Below w.heap.size w w') : Sn W (.pix g cap L :: l) w' :=
  ⟨bthen h.below hb, (h.en.below hb).cons (hp.base h.below.size) ⟨Nat.le_trans h.below.size hp.lt.1, by simp⟩ (fun y hy => by have := h.en.lt y hy; have := hp.lt; show ¬ g = y.blk; omega)⟩
/-- a walk's state with a tape -/
structure St (W : World) (p : Nat) (a : Option Addr) (cap : Nat) (xs : List Int) (l : List Th) (w : World) : Prop where
  tape : TapeSome W w p a cap xs
  below : Below W.heap.size W w
  en : En W.heap.size (some p) l w
theorem St.call {W : World} {p : Nat} {a : Option Addr} {cap : Nat} {xs : List Int} {l : List Th} {w w' : World} (h : St W p a cap xs l w) (hb : Below w.heap.size w w') : St W p a cap xs l w' := ⟨h.tape.more hb, bthen h.below hb, h.en.below hb⟩
theorem St.draw {W : World} {p : Nat} {a : Option Addr} {cap : Nat} {xs : List Int} {l : List Th} {w w' : World} (h : St W p a cap xs l w) (hT : TapeSome W w' p a cap xs) (hg : w.grownBy w' (some p)) : St W p a cap xs l w' :=
  ⟨hT, h.below.grown hg h.below.size (fun k e => by simp at e; subst e; exact h.tape.lt.2.1), h.en.grown hg⟩
theorem St.new {W : World} {p : Nat} {a : Option Addr} {cap : Nat} {xs : List Int} {l : List Th} {w : World} (h : St W p a cap xs l w) (v0 v1 v2 v3 : Value) (t : TypeId) : St W p a cap xs (.box w.heap.size v0 v1 v2 v3 :: l) (w.alloc (.cells #[v0, v1, v2, v3] t)) :=
  ⟨h.tape.more (balloc (bref w) _), balloc h.below _, h.en.new v0 v1 v2 v3 t h.below.size (by have := h.tape.lt.1; simp; omega)⟩
theorem St.perm {W : World} {p : Nat} {a : Option Addr} {cap : Nat} {xs : List Int} {l l' : List Th} {w : World} (h : St W p a cap xs l w) (hp : l.Perm l') : St W p a cap xs l' w := ⟨h.tape, h.below, h.en.perm hp⟩
/-- the thing of a number comes to the front -/
theorem St.pull {W : World} {p : Nat} {a : Option Addr} {cap : Nat} {xs : List Int} {l l' : List Th} {w : World} {x : Th} (h : St W p a cap xs l w) (n : Nat) (hl : l[n]? = some x) (he : l.eraseIdx n = l') : St W p a cap xs (x :: l') w := h.perm (perm_pull n hl he)
theorem St.store {W : World} {p : Nat} {a : Option Addr} {cap : Nat} {xs : List Int} {l : List Th} {w : World} {g c : Nat} {L : List Int} (h : St W p a cap xs (.pix g c L :: l) w) (k : Nat) (v : Int) : St W p a cap xs (.pix g c (L.set k v) :: l) (w.setCell ⟨g, k, none⟩ (.int .i64 v)) := by
  have hp := h.en.pix g c (L := L) (List.mem_cons_self ..)
  have hf := h.en.far _ (List.mem_cons_self ..)
  have hf2 : ¬ g = p := by simpa [Th.blk] using hf.2
  have hf1 : W.heap.size ≤ g := hf.1
  have hg := grown_set w g k (.int .i64 v)
  have hn := h.en.head
  exact ⟨h.tape.grown hf1 hf2 _ _, h.below.setCell hf1 _, En.cons (h.en.tail.row hg (fun x hx e => hn x hx e.symm)) (hp.store k v).1 hf hn⟩
theorem box4_put {w : World} {b : Nat} (h : Open4 w b) (v0 v1 v2 v3 : Value) : Box4 (put4 w b v0 v1 v2 v3) b v0 v1 v2 v3 := by
  obtain ⟨k0, k1, k2, k3⟩ := put4_at h v0 v1 v2 v3
  have f : ∀ k, k < 4 → (put4 w b v0 v1 v2 v3).frozen? ⟨b, k, none⟩ = false := fun k hk => by
    simp only [put4, World.frozen?_setCell]; exact (h k hk).2
  exact ⟨⟨k0, k1, k2, k3⟩, f 0 (by omega), f 1 (by omega), f 2 (by omega), f 3 (by omega)⟩
/-- a variable is written that is none of the things -/
theorem En.put {base : Nat} {p : Option Nat} {l : List Th} {w : World} (h : En base p l w) {b : Nat} (ho : Open4 w b) (hb : base ≤ b) (hp : some b ≠ p) (hne : ∀ x ∈ l, ¬ x.blk = b) (v0 v1 v2 v3 : Value) : En base p (.box b v0 v1 v2 v3 :: l) (put4 w b v0 v1 v2 v3) :=
  En.cons (h.row (gput4 (gref w (some b)) (.inr rfl) v0 v1 v2 v3) hne) (box4_put ho v0 v1 v2 v3) ⟨hb, hp⟩ (fun y hy e => hne y hy e.symm)
theorem Sn.put {W : World} {l : List Th} {w : World} (h : Sn W l w) {b : Nat} (ho : Open4 w b) (hb : W.heap.size ≤ b) (hne : ∀ x ∈ l, ¬ x.blk = b) (v0 v1 v2 v3 : Value) : Sn W (.box b v0 v1 v2 v3 :: l) (put4 w b v0 v1 v2 v3) :=
  ⟨bput4 h.below hb _ _ _ _, h.en.put ho hb (by simp) hne _ _ _ _⟩
theorem St.put {W : World} {p : Nat} {a : Option Addr} {cap : Nat} {xs : List Int} {l : List Th} {w : World} (h : St W p a cap xs l w) {b : Nat} (ho : Open4 w b) (hb : W.heap.size ≤ b) (hp : ¬ b = p) (hne : ∀ x ∈ l, ¬ x.blk = b) (v0 v1 v2 v3 : Value) : St W p a cap xs (.box b v0 v1 v2 v3 :: l) (put4 w b v0 v1 v2 v3) :=
  ⟨h.tape.put hb hp _ _ _ _, bput4 h.below hb _ _ _ _, h.en.put ho hb (by simpa using hp) hne _ _ _ _⟩
/-- behind two calls with a variable made somewhere between: what was there, what the second call has made, and the variable -/
theorem Sn.var2 {W : World} {l : List Th} {wa w4 w5 wf : World} {g c : Nat} {L : List Int} {v0 v1 v2 v3 : Value} {b : Nat} {o : Obj} {t : TypeId} (h : Sn W l wa) (ho : ∀ w : World, Open4 (w.alloc o) w.heap.size)
    (hw : (Below wa.heap.size wa w4 ∧ Below w4.heap.size w4 w5 ∧ PixAt w4.heap.size w5 g c L ∧ b = w5.heap.size ∧ wf = w5.alloc (.cells #[v0, v1, v2, v3] t)) ∨
      (Below wa.heap.size wa w4 ∧ Below (w4.alloc o).heap.size (w4.alloc o) w5 ∧ PixAt (w4.alloc o).heap.size w5 g c L ∧ b = w4.heap.size ∧ wf = put4 w5 b v0 v1 v2 v3) ∨
      (Below (wa.alloc o).heap.size (wa.alloc o) w4 ∧ Below w4.heap.size w4 w5 ∧ PixAt w4.heap.size w5 g c L ∧ b = wa.heap.size ∧ wf = put4 w5 b v0 v1 v2 v3)) :
    Sn W (.box b v0 v1 v2 v3 :: .pix g c L :: l) wf := by
  have hs := h.below.size
  rcases hw with ⟨h1, h2, h3, rfl, rfl⟩ | ⟨h1, h2, h3, rfl, rfl⟩ | ⟨h1, h2, h3, rfl, rfl⟩
  · have k4 := h.call h1
    have k5 := k4.made h3 h2
    exact k5.new v0 v1 v2 v3 t
  · have k4 := h.call h1
    have k4' := k4.call (balloc (bref _) o)
    have k5 := k4'.made h3 h2
    refine k5.put ((ho w4).below h2) k4.below.size (fun x hx => ?_) _ _ _ _
    rcases List.mem_cons.1 hx with rfl | hx
    · have := h3.lt; simp [Th.blk] at this ⊢; omega
    · have := k4.en.lt x hx; omega
  · have k3' := h.call (balloc (bref _) o)
    have k4 := k3'.call h1
    have k5 := k4.made h3 h2
    refine k5.put (((ho wa).below h1).below h2) hs (fun x hx => ?_) _ _ _ _
    rcases List.mem_cons.1 hx with rfl | hx
    · have := h3.lt; have := h1.size; simp [Th.blk] at this ⊢; omega
    · have := h.en.lt x hx; omega
/-- a call drew and made a row -/
theorem St.drawn {W : World} {p : Nat} {a : Option Addr} {cap : Nat} {xs : List Int} {l : List Th} {w w' : World} (h : St W p a cap xs l w) {g c : Nat} {L : List Int} (hP : PixAt w.heap.size w' g c L) (hT : TapeSome W w' p a cap xs) (hg : w.grownBy w' (some p)) : St W p a cap xs (.pix g c L :: l) w' := by
  have k := h.draw hT hg
  obtain ⟨h2, h3, h4⟩ := h.tape.lt
  have h1 := hP.lt
  exact ⟨hT, k.below, k.en.cons (hP.base h4) ⟨by show _ ≤ g; omega, by show some g ≠ some p; simp; omega⟩ (fun y hy => by have := h.en.lt y hy; show ¬ g = y.blk; omega)⟩
/-- a call made a row -/
theorem St.made {W : World} {p : Nat} {a : Option Addr} {cap : Nat} {xs : List Int} {l : List Th} {w w' : World} (h : St W p a cap xs l w) {g c : Nat} {L : List Int} (hP : PixAt w.heap.size w' g c L) (hb : Below w.heap.size w w') : St W p a cap xs (.pix g c L :: l) w' := h.drawn hP (h.tape.more hb) (bgrown hb _)
/-- behind two calls with a variable made somewhere between -/
theorem St.var2 {W : World} {p : Nat} {a : Option Addr} {cap : Nat} {xs : List Int} {l : List Th} {wa w4 w5 wf : World} {g c : Nat} {L : List Int} {v0 v1 v2 v3 : Value} {b : Nat} {o : Obj} {t : TypeId} (h : St W p a cap xs l wa) (ho : ∀ w : World, Open4 (w.alloc o) w.heap.size)
    (hw : (Below wa.heap.size wa w4 ∧ Below w4.heap.size w4 w5 ∧ PixAt w4.heap.size w5 g c L ∧ b = w5.heap.size ∧ wf = w5.alloc (.cells #[v0, v1, v2, v3] t)) ∨
      (Below wa.heap.size wa w4 ∧ Below (w4.alloc o).heap.size (w4.alloc o) w5 ∧ PixAt (w4.alloc o).heap.size w5 g c L ∧ b = w4.heap.size ∧ wf = put4 w5 b v0 v1 v2 v3) ∨
      (Below (wa.alloc o).heap.size (wa.alloc o) w4 ∧ Below w4.heap.size w4 w5 ∧ PixAt w4.heap.size w5 g c L ∧ b = wa.heap.size ∧ wf = put4 w5 b v0 v1 v2 v3)) :
    St W p a cap xs (.box b v0 v1 v2 v3 :: .pix g c L :: l) wf := by
  obtain ⟨hp, hs0, hs⟩ := h.tape.lt
  rcases hw with ⟨h1, h2, h3, rfl, rfl⟩ | ⟨h1, h2, h3, rfl, rfl⟩ | ⟨h1, h2, h3, rfl, rfl⟩
  · exact ((h.call h1).made h3 h2).new v0 v1 v2 v3 t
  · have k4 := h.call h1
    have k4' := k4.call (balloc (bref _) o)
    have k5 := k4'.made h3 h2
    have hz := h1.size
    refine k5.put ((ho w4).below h2) k4.below.size (by omega) (fun x hx => ?_) _ _ _ _
    rcases List.mem_cons.1 hx with rfl | hx
    · have := h3.lt; simp [Th.blk] at this ⊢; omega
    · have := k4.en.lt x hx; omega
  · have k3' := h.call (balloc (bref _) o)
    have k4 := k3'.call h1
    have k5 := k4.made h3 h2
    refine k5.put (((ho wa).below h1).below h2) hs (by omega) (fun x hx => ?_) _ _ _ _
    rcases List.mem_cons.1 hx with rfl | hx
    · have := h3.lt; have := h1.size; simp [Th.blk] at this ⊢; omega
    · have := h.en.lt x hx; omega
theorem open_new0 (t : TypeId) (v0 v1 v2 v3 : Value) : ∀ w : World, Open4 (w.alloc (.cells #[v0, v1, v2, v3] t)) w.heap.size := fun w => Open4.new w v0 v1 v2 v3 t
/-- a plane came back -/
theorem post_some {W H M : Int} {o : Option (List Int)} {L : List Int} {w : World} {e : Ending} {w' : World} (h : PlanePost W H M o w e w') (ho : o = some L) :
    ∃ g cap, e = .returned (.tuple #[.agg #[.int .i64 W, .int .i64 H, .int .i64 M, .slice (some ⟨g, 0, none⟩) L.length cap], .bool true]) ∧ PixAt w.heap.size w' g cap L ∧ Below w.heap.size w w' := by
  subst ho
  obtain ⟨hb, g, cap, he, hp⟩ := h
  exact ⟨g, cap, he, hp, hb⟩
theorem post_none {W H M : Int} {o : Option (List Int)} {w : World} {e : Ending} {w' : World} (h : PlanePost W H M o w e w') (ho : o = none) :
    e = .returned (.tuple #[.agg #[.int .i64 0, .int .i64 0, .int .i64 0, .slice none 0 0], .bool false]) ∧ Below w.heap.size w w' := by
  subst ho
  obtain ⟨hb, he⟩ := h
  exact ⟨he, hb⟩
end Go.Proofs.Ytibmoibhbgbfoaa
