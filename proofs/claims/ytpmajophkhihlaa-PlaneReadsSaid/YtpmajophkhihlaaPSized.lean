/- The tape's planes: Sized gives a valid plane of the size, its pixels in a block of their own. -/
import Derived.Test.YtpmajophkhihlaaPRCrop
import Derived.Test.YtpmajophkhihlaaRect
import Derived.Deep.DeepMust
namespace Go.Proofs.Ytpmajophkhihlaa
open Go.ChangeShapes Go.WideShapes Go.ChangeAt Go.RowKit
set_option linter.unusedVariables false
set_option linter.unusedSimpArgs false

theorem TapeSome.alloc {W w : World} {p : Nat} {a : Option Addr} {cap : Nat} {xs : List Int} (h : TapeSome W w p a cap xs) (o : Obj) : TapeSome W (w.alloc o) p a cap xs := h.more (balloc (bref w) o)
theorem TapeSome.drewn {W w : World} {p : Nat} {a : Option Addr} {cap : Nat} {xs : List Int} (h : TapeSome W w p a cap xs) : TapeSome W w.drew p a cap xs := h.more (bdrew1 (bref w))
/-- one of the five Maxes -/
theorem pick_max (W : World) (p : Nat) (a : Option Addr) (cap : Nat) (xs : List Int) (s c : Nat) (w : World) (h : TapeSome W w p a cap xs) (hsp : ¬ s = p)
    (h0 : w.cell? ⟨s, 0, none⟩ = some (.int .i64 255)) (h1 : w.cell? ⟨s, 1, none⟩ = some (.int .i64 255)) (h2 : w.cell? ⟨s, 2, none⟩ = some (.int .i64 65535)) (h3 : w.cell? ⟨s, 3, none⟩ = some (.int .i64 1)) (h4 : w.cell? ⟨s, 4, none⟩ = some (.int .i64 7)) :
    Calls Try.prog 32 #[.pointer (some ⟨p, 0, none⟩), .slice (some ⟨s, 0, none⟩) 5 c] w
      fun e w' => ∃ m : Int, e = .returned (.int .i64 m) ∧ (1 ≤ m ∧ m ≤ 65535) ∧ TapeSome W w' p a cap xs ∧ w.grownBy w' (some p) := by
  have := pick_some W p a cap xs s c [255, 255, 65535, 1, 7] w h hsp (by simp) (by simp) (by
    intro j hj
    simp at hj
    rcases (show j = 0 ∨ j = 1 ∨ j = 2 ∨ j = 3 ∨ j = 4 by omega) with rfl | rfl | rfl | rfl | rfl <;> simpa)
  refine this.mono fun e w' ⟨m, he, hm, hT, hg⟩ => ⟨m, he, ?_, hT, hg⟩
  simp at hm
  omega
/-- behind the first region of Sized: a fresh plane variable, zero pixels, the tape somewhere -/
def SzAt (W w : World) (p : Nat) (a : Option Addr) (cap : Nat) (xs : List Int) (cw ch n : Nat) (q g : Nat) (m : Int) (wx : World) : Prop :=
  Hid (TapeSome W wx p a cap xs) ∧ Hid (w.grownBy wx (some p)) ∧ Hid (PixAt w.heap.size wx g n (List.replicate n 0)) ∧ Hid (Open4 wx w.heap.size) ∧
    wx.cell? ⟨q, 0, none⟩ = some (.int .i64 cw) ∧ wx.cell? ⟨q, 1, none⟩ = some (.int .i64 ch) ∧ wx.cell? ⟨q, 2, none⟩ = some (.int .i64 m) ∧ wx.cell? ⟨q, 3, none⟩ = some (.slice (some ⟨g, 0, none⟩) n n)
theorem zrow {B : Nat} (n : Nat) (hn : n ≤ 4096) {A : Array Value} (hA : A = (ints (List.replicate n 0)).toArray) (X : World) (g : Nat) (hg : X.heap.size = g) (hB : B ≤ X.heap.size) : PixAt B (X.alloc (.cells A 3)) g n (List.replicate n 0) := by
  subst hg; subst hA
  have := RowIs.pix (base := B) (row_new X (List.replicate n 0)) hB (by simp [maxLen]; omega)
  simpa using this
theorem pick_four (W : World) (p : Nat) (a : Option Addr) (cap : Nat) (xs : List Int) (y0 y1 y2 y3 : Int) (c : Nat) (w : World) (t : TypeId) (h : TapeSome W (w.alloc (.cells #[.int .i64 y0, .int .i64 y1, .int .i64 y2, .int .i64 y3] t)) p a cap xs) (hsp : ¬ w.heap.size = p) :
    Calls Try.prog 32 #[.pointer (some ⟨p, 0, none⟩), .slice (some ⟨w.heap.size, 0, none⟩) 4 c] (w.alloc (.cells #[.int .i64 y0, .int .i64 y1, .int .i64 y2, .int .i64 y3] t))
      fun e w' => ∃ m : Int, e = .returned (.int .i64 m) ∧ (m = y0 ∨ m = y1 ∨ m = y2 ∨ m = y3) ∧ TapeSome W w' p a cap xs ∧ (w.alloc (.cells #[.int .i64 y0, .int .i64 y1, .int .i64 y2, .int .i64 y3] t)).grownBy w' (some p) := by
  have := pick_some W p a cap xs w.heap.size c [y0, y1, y2, y3] _ h hsp (by simp) (by simp) (by
    intro j hj
    simp at hj
    rcases (show j = 0 ∨ j = 1 ∨ j = 2 ∨ j = 3 by omega) with rfl | rfl | rfl | rfl <;> simp [World.cell?_alloc_new])
  refine this.mono fun e w' ⟨m, he, hm, hT, hg⟩ => ⟨m, he, ?_, hT, hg⟩
  simpa using hm
/-- while the pixels are drawn: pixel k alone may differ -/
structure SzK (W w : World) (p : Nat) (a : Option Addr) (cap : Nat) (xs : List Int) (q g k n cw ch : Nat) (L : List Int) (w' : World) : Prop where
  tape : TapeSome W w' p a cap xs
  grown : w.grownBy w' (some p)
  op : Open4 w' w.heap.size
  c0 : w'.cell? ⟨q, 0, none⟩ = some (.int .i64 cw)
  c1 : w'.cell? ⟨q, 1, none⟩ = some (.int .i64 ch)
  pix : ∃ L', PixAt w.heap.size w' g n L' ∧ L'.length = n ∧ ∀ j, j ≠ k → L'.getD j 0 = L.getD j 0
  far : (¬ q = p ∧ ¬ g = p ∧ ¬ g = q ∧ w.heap.size < q ∧ w.heap.size < g) ∧ (p < w.heap.size ∧ W.heap.size ≤ w.heap.size)
abbrev SzS (W w : World) (p : Nat) (a : Option Addr) (cap : Nat) (xs : List Int) (q g k n cw ch : Nat) (m : Int) (L : List Int) (w' : World) : Prop :=
  Hid (SzK W w p a cap xs q g k n cw ch L w') ∧ w'.cell? ⟨q, 2, none⟩ = some (.int .i64 m) ∧ w'.cell? ⟨q, 3, none⟩ = some (.slice (some ⟨g, 0, none⟩) n n) ∧ w'.cell? ⟨g, k, none⟩ = some (valAt w' g k) ∧ w'.frozen? ⟨g, k, none⟩ = false
theorem szS_val {w' : World} {g k : Nat} {u : Value} (h : w'.cell? ⟨g, k, none⟩ = some u) : w'.cell? ⟨g, k, none⟩ = some (valAt w' g k) := by simp [valAt, h]
theorem szS_call {W w : World} {p : Nat} {a : Option Addr} {cap : Nat} {xs : List Int} {q g k n cw ch : Nat} {m : Int} {L : List Int} {w1 w2 : World} (hT : TapeSome W w2 p a cap xs) (hg : w1.grownBy w2 (some p)) (h : SzS W w p a cap xs q g k n cw ch m L w1) : SzS W w p a cap xs q g k n cw ch m L w2 := by
  obtain ⟨h0, h2, h3, h4, h5⟩ := h
  obtain ⟨⟨f1, f2, f3, f4, f5⟩, f6, f7⟩ := h0.out.far
  obtain ⟨L', hP, hl, ha⟩ := h0.out.pix
  refine ⟨Lib.hid ⟨hT, gthen h0.out.grown hg, h0.out.op.grown hg (by simp; omega), hg.cell h0.out.c0 (by simpa using f1), hg.cell h0.out.c1 (by simpa using f1), ⟨L', hP.grown hg (by simpa using f2), hl, ha⟩, h0.out.far⟩, hg.cell h2 (by simpa using f1), hg.cell h3 (by simpa using f1), szS_val (hg.cell h4 (by simpa using f2)), ?_⟩
  rw [hg.frozen_far _ (World.block_lt_of_cell? _ _ h4) (by simpa using f2)]; exact h5
theorem szS_alloc {W w : World} {p : Nat} {a : Option Addr} {cap : Nat} {xs : List Int} {q g k n cw ch : Nat} {m : Int} {L : List Int} {w1 : World} (h : SzS W w p a cap xs q g k n cw ch m L w1) (o : Obj) : SzS W w p a cap xs q g k n cw ch m L (w1.alloc o) :=
  szS_call (h.1.out.tape.alloc o) (galloc (gref w1 _) o) h
theorem szS_drew {W w : World} {p : Nat} {a : Option Addr} {cap : Nat} {xs : List Int} {q g k n cw ch : Nat} {m : Int} {L : List Int} {w1 : World} (h : SzS W w p a cap xs q g k n cw ch m L w1) : SzS W w p a cap xs q g k n cw ch m L w1.drew :=
  szS_call h.1.out.tape.drewn (gdrew (gref w1 _)) h
theorem szS_far {W w : World} {p : Nat} {a : Option Addr} {cap : Nat} {xs : List Int} {q g k n cw ch : Nat} {m : Int} {L : List Int} {w1 : World} {o : Obj} (h : SzS W w p a cap xs q g k n cw ch m L (w1.alloc o)) : ¬ w1.heap.size = p := by
  have h1 := h.1.out.op.lt
  have h2 := h.1.out.far.2.1
  simp at h1
  omega
theorem szS_set {W w : World} {p : Nat} {a : Option Addr} {cap : Nat} {xs : List Int} {q g k n cw ch : Nat} {m : Int} {L : List Int} {w1 : World} (h : SzS W w p a cap xs q g k n cw ch m L w1) (v : Int) : SzS W w p a cap xs q g k n cw ch m L (w1.setCell ⟨g, k, none⟩ (.int .i64 v)) := by
  obtain ⟨h0, h2, h3, h4, h5⟩ := h
  obtain ⟨⟨f1, f2, f3, f4, f5⟩, f6, f7⟩ := h0.out.far
  obtain ⟨L', hP, hl, ha⟩ := h0.out.pix
  have hg := grown_set w1 g k (.int .i64 v)
  have c : ∀ b o u, ¬ g = b → w1.cell? ⟨b, o, none⟩ = some u → (w1.setCell ⟨g, k, none⟩ (.int .i64 v)).cell? ⟨b, o, none⟩ = some u := fun b o u hne hc => hg.cell hc (by simpa using Ne.symm hne)
  refine ⟨Lib.hid ⟨h0.out.tape.grown (by omega) (by omega) _ _, gset h0.out.grown (.inl (by omega)) _ _, h0.out.op.set _ _, c _ _ _ f3 h0.out.c0, c _ _ _ f3 h0.out.c1, ⟨L'.set k v, (hP.store k v).1, by rw [List.length_set]; exact hl, fun j hj => ?_⟩, h0.out.far⟩, c _ _ _ f3 h2, c _ _ _ f3 h3, szS_val (World.cell?_setCell_same _ _ _ h4), by rw [World.frozen?_setCell]; exact h5⟩
  rw [← ha j hj]
  simp [List.getD_eq_getElem?_getD, List.getElem?_set, Ne.symm hj]
theorem szS_next {W w : World} {p : Nat} {a : Option Addr} {cap : Nat} {xs : List Int} {q g k n cw ch : Nat} {m : Int} {L : List Int} {w3 : World} (h : SzS W w p a cap xs q g k n cw ch m L w3) (v : Int) (hk : k < n) (hL : L.length = n ∧ Pixs m L n) (hv : 0 ≤ v ∧ v ≤ m) (k' : Nat) :
    ∃ L', (L'.length = n ∧ Pixs m L' n) ∧ (SzK W w p a cap xs q g k' n cw ch L' (w3.setCell ⟨g, k, none⟩ (.int .i64 v)) ∧ PixAt w.heap.size (w3.setCell ⟨g, k, none⟩ (.int .i64 v)) g n L') ∧
      (w3.setCell ⟨g, k, none⟩ (.int .i64 v)).cell? ⟨q, 2, none⟩ = some (.int .i64 m) ∧ (w3.setCell ⟨g, k, none⟩ (.int .i64 v)).cell? ⟨q, 3, none⟩ = some (.slice (some ⟨g, 0, none⟩) n n) := by
  obtain ⟨L1, hP, hl, ha⟩ := h.1.out.pix
  have hs := szS_set h v
  have hp := (hP.store k v).1
  refine ⟨L1.set k v, ⟨by rw [List.length_set]; exact hl, fun j hj => ?_⟩, ⟨⟨hs.1.out.tape, hs.1.out.grown, hs.1.out.op, hs.1.out.c0, hs.1.out.c1, ⟨_, hp, by rw [List.length_set]; exact hl, fun _ _ => rfl⟩, hs.1.out.far⟩, hp⟩, hs.2.1, hs.2.2.1⟩
  by_cases e : j = k
  · subst e
    have : (L1.set j v).getD j 0 = v := by simp [List.getD_eq_getElem?_getD, show j < L1.length by omega]
    rw [this]; exact hv
  · have : (L1.set k v).getD j 0 = L.getD j 0 := by rw [← ha j e]; simp [List.getD_eq_getElem?_getD, List.getElem?_set, Ne.symm e]
    rw [this]; exact hL.2 j hj
/-- a plane of a size came back: valid, its pixels the whole of a new block; beside new blocks the tape's alone has changed -/
def SizedPost (W : World) (p : Nat) (a : Option Addr) (cap : Nat) (xs : List Int) (cw ch : Nat) (w : World) (e : Ending) (w' : World) : Prop :=
  ∃ (m : Int) (g : Nat) (L : List Int), e = .returned (.agg #[.int .i64 cw, .int .i64 ch, .int .i64 m, .slice (some ⟨g, 0, none⟩) L.length L.length]) ∧ planeB cw ch m L = true ∧ m ≤ 65535 ∧ PixAt w.heap.size w' g L.length L ∧ TapeSome W w' p a cap xs ∧ w.grownBy w' (some p)
theorem pixs_zeros {m : Int} (n : Nat) (h : 0 ≤ m) : Pixs m (List.replicate n 0) n := fun k hk => by simp [List.getD_eq_getElem?_getD, hk]; exact h
set_option maxHeartbeats 4000000 in
theorem sized_any (W : World) (p : Nat) (a : Option Addr) (cap : Nat) (xs : List Int) (cw ch : Nat) (w : World) (h : TapeSome W w p a cap xs) (c1 : 1 ≤ cw) (c2 : cw ≤ 64) (d1 : 1 ≤ ch) (d2 : ch ≤ 64) :
    Calls Try.prog 9 #[.pointer (some ⟨p, 0, none⟩), .int .i64 cw, .int .i64 ch] w (SizedPost W p a cap xs cw ch w) := by
  have hT := Lib.hid h
  have hlt := h.lt.1
  obtain ⟨n, eN⟩ : ∃ n : Nat, (cw : Int) * ch = n := ⟨cw * ch, by push_cast; rfl⟩
  have hn : n ≤ 4096 := by
    have h1 : cw * ch ≤ 64 * 64 := Nat.mul_le_mul c2 d2
    have h2 : cw * ch = n := by exact_mod_cast eN
    omega
  obtain ⟨A, hA, hmk⟩ := run_zeros n (by omega)
  have hA' := Lib.hid hA
  clear hA
  go_enter Try.func9, Try.ntmps9
  go_upto_region 1 with fail
  have en : IntKind.i64.wrap (n : Int) = n := IntWalk.i64_in _ (by omega)
  have n0 : ¬ w.heap.size = p := by omega
  have n1 : ¬ w.heap.size + 1 = p := by omega
  have n2 : ¬ w.heap.size + 1 + 1 = p := by omega
  have n3 : ¬ w.heap.size + 1 + 1 + 1 = p := by omega
  have hWw := h.lt.2.2
  clear h
  go_cut [7, 17] (fun s7 s17 wx => ∃ (q g : Nat) (m : Int), s7 = .pointer (some ⟨q, 0, none⟩) ∧ s17 = .slice (some ⟨g, 0, none⟩) n n ∧ (1 ≤ m ∧ m ≤ 65535) ∧ (¬ q = p ∧ ¬ g = p ∧ ¬ g = q ∧ w.heap.size < q ∧ w.heap.size < g) ∧ SzAt W w p a cap xs cw ch n q g m wx)
  case first =>
   go_region_with (go_at_call 32; go_must (refine (pick_max W p a cap xs _ _ _ (by (repeat (first | refine TapeSome.drewn ?_ | refine TapeSome.alloc ?_ _)); exact hT.out) (by first | omega | (simp; omega)) (by go_cell) (by go_cell) (by go_cell) (by go_cell) (by go_cell)).mono ?_; rintro e w1 ⟨m, rfl, ⟨m0, m1⟩, hT1, hg1⟩; obtain ⟨hc1, hf1⟩ := gcell hg1; have z := hg1.size; simp at z; have z0 : w.heap.size < w1.heap.size := (by omega); have z1 : w.heap.size + 1 < w1.heap.size := (by omega); try (have z2 : w.heap.size + 1 + 1 < w1.heap.size := (by omega)); try (have z3 : w.heap.size + 1 + 1 + 1 < w1.heap.size := (by omega))))
   all_goals
    go_wp2_with fail
    go_meet
    refine ⟨_, _, m, rfl, rfl, ⟨m0, m1⟩, by omega, Lib.hid ?_, Lib.hid ?_, Lib.hid ?_, Lib.hid ?_, ?_, ?_, ?_, ?_⟩
    · (repeat (first | exact hT1 | with_reducible refine TapeSome.drewn ?_ | with_reducible refine TapeSome.alloc ?_ _ | with_reducible refine TapeSome.grown ?_ (by omega) (by omega) _ _))
    · (repeat (first | with_reducible exact gref w _ | with_reducible refine galloc ?_ _ | with_reducible refine gset ?_ (.inl (by omega)) _ _ | with_reducible refine gdrew ?_ | with_reducible refine gthen ?_ hg1))
    · (repeat (first | with_reducible exact zrow n hn hA'.out _ _ (by first | rfl | simp) (by first | omega | (simp; omega) | simp) | with_reducible refine PixAt.below ?_ (balloc (bref _) _) | with_reducible refine PixAt.grown ?_ (grown_set _ _ _ _) (by simp <;> omega) | with_reducible refine PixAt.below ?_ (bdrew1 (bref _)) | with_reducible refine PixAt.grown ?_ hg1 (by simp <;> omega)))
    · (repeat (first | with_reducible exact Open4.new w _ _ _ _ _ | with_reducible refine Open4.alloc ?_ _ | with_reducible refine Open4.set ?_ _ _ | with_reducible refine Open4.drew ?_ | with_reducible refine Open4.grown ?_ hg1 (by simp <;> omega)))
    all_goals go_cell
  case rest =>
    obtain ⟨q, g, m, rfl, rfl, ⟨m0, m1⟩, ⟨n0, n1, n2, n3, n4⟩, hT1, hG, hP, hO, c0, c1, c2, c3⟩ := hcut
    have hfar := Lib.hid (show (¬ q = p ∧ ¬ g = p ∧ ¬ g = q ∧ w.heap.size < q ∧ w.heap.size < g) ∧ (p < w.heap.size ∧ W.heap.size ≤ w.heap.size) by omega)
    have hK0 : Hid (SzK W w p a cap xs q g 0 n cw ch (List.replicate n 0) wc) := Lib.hid ⟨hT1.out, hG.out, hO.out, c0, c1, ⟨_, hP.out, by simp, fun j _ => rfl⟩, hfar.out⟩
    have hc2 : Hid (wc.cell? ⟨q, 2, none⟩ = some (.int .i64 m)) := Lib.hid c2
    have hc3 : Hid (wc.cell? ⟨q, 3, none⟩ = some (.slice (some ⟨g, 0, none⟩) n n)) := Lib.hid c3
    have hPz := hP
    clear hT1 hG hP hO c0 c1 c2 c3
    go_wp2_with fail
    go_loopw [8] (fun i wr => ∃ (k : Nat) (L : List Int), k ≤ n ∧ i = .int .i64 k ∧ Hid (L.length = n ∧ Pixs m L n) ∧ Hid (SzK W w p a cap xs q g k n cw ch L wr ∧ PixAt w.heap.size wr g n L) ∧ Hid (wr.cell? ⟨q, 2, none⟩ = some (.int .i64 m)) ∧ Hid (wr.cell? ⟨q, 3, none⟩ = some (.slice (some ⟨g, 0, none⟩) n n))) (fun i _ => n - (intOf i).toNat)
    case atStart => exact ⟨0, _, by omega, rfl, Lib.hid ⟨by simp, pixs_zeros n (by omega)⟩, Lib.hid ⟨hK0.out, by obtain ⟨L', hP, hl, ha⟩ := hK0.out.pix; exact hPz.out⟩, hc2, hc3⟩
    case round =>
      clear hK0 hc2 hc3
      obtain ⟨k, L, hk, rfl, hL, hK, hc2, hc3⟩ := hrel
      by_cases hlt : k < n
      · have hkI : (k : Int) < n := by omega
        have hdc := hK.out.2.cell (k := k) (by rw [hL.out.1]; exact hlt)
        have hdf := hK.out.2.frozen k
        have hS : SzS W w p a cap xs q g k n cw ch m L wr.drew := szS_drew ⟨Lib.hid hK.out.1, hc2.out, hc3.out, szS_val hdc, hdf⟩
        have hSS := Lib.hid hS
        have c3' := hc3.out
        have hm1 : IntKind.i64.wrap (m + 1) = m + 1 := IntWalk.i64_in _ (by omega)
        clear hdc hdf
        go_upto_region 5 with fail
        clear c3'
        go_region_held3 (fun w' => SzS W w p a cap xs q g k n cw ch m L w') ((first | exact hSS.out | exact szS_call hTa hga ‹_› | exact szS_call hTc hgc ‹_› | exact szS_alloc ‹_› _ | exact szS_set ‹_› _))
          (first
            | (go_at_call 10; refine (next_some W p a cap xs _ _ (‹SzS W w p a cap xs q g k n cw ch m L _›).1.out.tape (by omega) (by omega)).mono ?_; rintro e w1 ⟨x, rfl, ⟨x0, x1⟩, hTa, hga⟩)
            | (go_at_call 32; refine (pick_four W p a cap xs _ _ _ _ _ _ _ (‹SzS W w p a cap xs q g k n cw ch m L _›).1.out.tape (szS_far ‹SzS W w p a cap xs q g k n cw ch m L _›)).mono ?_; rintro e w3 ⟨v, rfl, hv, hTc, hgc⟩))
        all_goals
          have hvm : 0 ≤ v ∧ v ≤ m := by omega
          have hgA := ‹wr.drew.grownBy _ (some p)›
          have hS1 := szS_call (by assumption) hgA hSS.out
          have hS3 := szS_call hTc hgc (szS_alloc (szS_call hTa hga hS1) _)
          have hN := Lib.hid (szS_next hS3 v hlt hL.out hvm (k + 1))
          clear hgA hS1 hS3
          go_wp2_with fail
          go_roundw
          case rel =>
            obtain ⟨L', a1, a2, a3, a4⟩ := hN.out
            exact ⟨k + 1, L', by omega, by go_num, Lib.hid a1, Lib.hid a2, Lib.hid a3, Lib.hid a4⟩
          case measure => simp [intOf]; omega
      · obtain rfl : k = n := by omega
        have c0 := hK.out.1.c0
        have c1 := hK.out.1.c1
        have c2 := hc2.out
        have c3 := hc3.out
        obtain ⟨⟨v0, o0, f0⟩, ⟨v1, o1, f1⟩, ⟨v2, o2, f2⟩, ⟨v3, o3, f3⟩⟩ := open_cells hK.out.1.op
        go_wp2_with fail
        refine ret_plane Try.results9 rfl rfl hK.out.1.op ?_
        obtain ⟨hLn, hPx⟩ := hL.out
        obtain ⟨⟨f1', f2', f3', f4', f5'⟩, f6', f7'⟩ := hfar.out
        subst hLn
        refine ⟨m, g, L, rfl, planeB_all (sizeB_t.2 ⟨by omega, by omega, by rw [eN]; omega, by omega⟩) (by rw [eN]) hPx, m1, ?_, hK.out.1.tape.put hWw (by omega) _ _ _ _, gput4 hK.out.1.grown (.inl (Nat.le_refl _)) _ _ _ _⟩
        exact hK.out.2.grown (gput4 (gref wr (some w.heap.size)) (.inr rfl) _ _ _ _) (by simp; omega)
end Go.Proofs.Ytpmajophkhihlaa
