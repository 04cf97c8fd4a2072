/- The tape's rectangle within a size, as a contract. -/
import Derived.Test.YtibmoibhbgbfoaaTapePick
import Derived.Test.YtibmoibhbgbfoaaAgg
namespace Go.Proofs.Ytibmoibhbgbfoaa
open Go.ChangeShapes Go.WideShapes Go.ChangeAt Go.RowKit
set_option linter.unusedVariables false
set_option linter.unusedSimpArgs false

theorem TapeIn.drew {W w : World} {p : Nat} {a : Option Addr} {cap : Nat} {xs : List Int} {k : Nat} (h : TapeIn W w p a cap xs k) : TapeIn W w.drew p a cap xs k :=
  ⟨⟨h.below.os, h.below.tape, h.below.output, h.below.size, h.below.block⟩, h.lo, h.sl, h.fits, h.len, h.c0, h.c1, h.fz, h.le⟩
theorem gdrew {a w : World} {row : Option Nat} (h : a.grownBy w row) : a.grownBy w.drew row := ⟨h.os, h.tape, h.output, h.size, h.block⟩
theorem TapeIn.setq {W w : World} {p : Nat} {a : Option Addr} {cap : Nat} {xs : List Int} {k : Nat} (h : TapeIn W w p a cap xs k) {q : Nat} (hq : W.heap.size ≤ q) (hne : q ≠ p) (o : Nat) (u : Value) : TapeIn W (w.setCell ⟨q, o, none⟩ u) p a cap xs k :=
  h.keep (grown_set w q o u) (fun r e => by simp at e; subst e; exact ⟨hq, hne⟩)
/-- the tape at some place -/
def TapeSome (W w : World) (p : Nat) (a : Option Addr) (cap : Nat) (xs : List Int) : Prop := ∃ k, TapeIn W w p a cap xs k
theorem next_some (W : World) (p : Nat) (a : Option Addr) (cap : Nat) (xs : List Int) (n : Int) (w : World) (h : TapeSome W w p a cap xs) (h0 : 1 ≤ n) (h1 : n ≤ 9223372036854775807) :
    Calls Try.prog 9 #[.pointer (some ⟨p, 0, none⟩), .int .i64 n] w fun e w' => ∃ m : Int, e = .returned (.int .i64 m) ∧ (0 ≤ m ∧ m < n) ∧ TapeSome W w' p a cap xs ∧ w.grownBy w' (some p) := by
  obtain ⟨k, hk⟩ := h
  exact (next_any W p a cap xs k n w hk h0 h1).mono fun e w' ⟨m, k', he, hm, hT, hg⟩ => ⟨m, he, hm, ⟨k', hT⟩, hg⟩
/-- what a cell holds -/
def valAt (w : World) (q j : Nat) : Value := (w.cell? ⟨q, j, none⟩).getD undef
theorem open_val {w : World} {q : Nat} (h : Open4 w q) (j : Nat) (hj : j < 4) : w.cell? ⟨q, j, none⟩ = some (valAt w q j) := by
  obtain ⟨⟨u, hu⟩, _⟩ := h j hj
  simp [valAt, hu]
/-- a rectangle's variable of which two fields are known, beside a tape -/
abbrev WS (W w2 : World) (q p : Nat) (a : Option Addr) (cap : Nat) (xs : List Int) (m1 m2 : Int) (w' : World) : Prop :=
  Hid (TapeSome W w' p a cap xs) ∧ Hid (w2.grownBy w' (some p)) ∧ Hid (Open4 w' q) ∧ w'.cell? ⟨q, 0, none⟩ = some (.int .i64 m1) ∧ w'.cell? ⟨q, 1, none⟩ = some (.int .i64 m2) ∧
  w'.cell? ⟨q, 2, none⟩ = some (valAt w' q 2) ∧ w'.cell? ⟨q, 3, none⟩ = some (valAt w' q 3) ∧ w'.frozen? ⟨q, 2, none⟩ = false ∧ w'.frozen? ⟨q, 3, none⟩ = false
theorem ws_mk {W w2 : World} {q p : Nat} {a : Option Addr} {cap : Nat} {xs : List Int} {m1 m2 : Int} {w' : World} (hT : TapeSome W w' p a cap xs) (hg : w2.grownBy w' (some p)) (ho : Open4 w' q) (h0 : w'.cell? ⟨q, 0, none⟩ = some (.int .i64 m1)) (h1 : w'.cell? ⟨q, 1, none⟩ = some (.int .i64 m2)) :
    WS W w2 q p a cap xs m1 m2 w' :=
  ⟨Lib.hid hT, Lib.hid hg, Lib.hid ho, h0, h1, open_val ho 2 (by omega), open_val ho 3 (by omega), (ho 2 (by omega)).2, (ho 3 (by omega)).2⟩
theorem ws_call {W w2 : World} {q p : Nat} {a : Option Addr} {cap : Nat} {xs : List Int} {m1 m2 : Int} {w' w'' : World} (hne : ¬ q = p) (hT : TapeSome W w'' p a cap xs) (hg : w'.grownBy w'' (some p)) (h : WS W w2 q p a cap xs m1 m2 w') : WS W w2 q p a cap xs m1 m2 w'' := by
  obtain ⟨_, h2, h3, h4, h5, _⟩ := h
  exact ws_mk hT (gthen h2.out hg) (h3.out.grown hg (by simpa using hne)) (hg.cell h4 (by simpa using hne)) (hg.cell h5 (by simpa using hne))
theorem ws_set {W w2 : World} {q p : Nat} {a : Option Addr} {cap : Nat} {xs : List Int} {m1 m2 : Int} {w' : World} (hne : ¬ q = p) (hq : w2.heap.size ≤ q) (hW : W.heap.size ≤ q) {j : Nat} (hj : j = 2 ∨ j = 3) (v : Value) (h : WS W w2 q p a cap xs m1 m2 w') : WS W w2 q p a cap xs m1 m2 (w'.setCell ⟨q, j, none⟩ v) := by
  obtain ⟨h1, h2, h3, h4, h5, _⟩ := h
  obtain ⟨k, hk⟩ := h1.out
  refine ws_mk ⟨k, hk.setq hW hne j v⟩ (gset h2.out (.inl hq) _ _) (h3.out.set _ _) ?_ ?_
  · rw [World.cell?_setCell_other _ _ _ _ (by rcases hj with rfl | rfl <;> simp)]; exact h4
  · rw [World.cell?_setCell_other _ _ _ _ (by rcases hj with rfl | rfl <;> simp)]; exact h5
theorem Open4.drew {w : World} {q : Nat} (h : Open4 w q) : Open4 w.drew q := fun k hk => h k hk
theorem set23 {w : World} {q : Nat} (h : Open4 w q) (u v : Value) : ((w.setCell ⟨q, 2, none⟩ u).setCell ⟨q, 3, none⟩ v).cell? ⟨q, 2, none⟩ = some u ∧ ((w.setCell ⟨q, 2, none⟩ u).setCell ⟨q, 3, none⟩ v).cell? ⟨q, 3, none⟩ = some v := by
  obtain ⟨x2, h2⟩ := (h 2 (by omega)).1
  obtain ⟨x3, h3⟩ := ((h.set ⟨q, 2, none⟩ u) 3 (by omega)).1
  refine ⟨?_, World.cell?_setCell_same _ _ _ h3⟩
  rw [World.cell?_setCell_other _ _ _ _ (by simp)]
  exact World.cell?_setCell_same _ _ _ h2
/-- a rectangle within a size came back, and beside new blocks the tape's alone has changed -/
def WithinPost (W : World) (p : Nat) (a : Option Addr) (cap : Nat) (xs : List Int) (ww hh : Int) (w : World) (e : Ending) (w' : World) : Prop :=
  ∃ (x0 y0 x1 y1 : Int) (k : Nat), e = .returned (.agg #[.int .i64 x0, .int .i64 y0, .int .i64 x1, .int .i64 y1]) ∧ (0 ≤ x0 ∧ x0 < x1 ∧ x1 ≤ ww) ∧ (0 ≤ y0 ∧ y0 < y1 ∧ y1 ≤ hh) ∧ TapeIn W w' p a cap xs k ∧ w.grownBy w' (some p)
set_option maxHeartbeats 4000000 in
theorem within_any (W : World) (p : Nat) (a : Option Addr) (cap : Nat) (xs : List Int) (k : Nat) (ww hh : Int) (w : World) (h : TapeIn W w p a cap xs k) (h0 : 1 ≤ ww) (h1 : ww ≤ 4611686018427387903) (h2 : 1 ≤ hh) (h3 : hh ≤ 4611686018427387903) :
    Calls Try.prog 17 #[.pointer (some ⟨p, 0, none⟩), .int .i64 ww, .int .i64 hh] w (WithinPost W p a cap xs ww hh w) := by
  have hT0 := Lib.hid (h.more (balloc (bref w) (.cells #[.int .i64 0, .int .i64 0, .int .i64 0, .int .i64 0] 33)))
  have hp := h.lt
  have hWp := h.lo
  have hWw := h.below.size
  clear h
  go_enter Try.func17, Try.ntmps17
  go_wp2_with fail
  refine (next_any W p a cap xs _ _ _ hT0.out (by omega) (by omega)).mono ?_; rintro e w1 ⟨m1, k1, rfl, ⟨m10, m11⟩, hT1, hg1⟩
  replace hT1 := Lib.hid hT1
  obtain ⟨hc1, hf1⟩ := gcell hg1
  have z0 : w.heap.size < w1.heap.size := by have := hg1.size; simp at this; omega
  have n0 : ¬ w.heap.size = p := by omega
  go_wp2_with fail
  refine (next_any W p a cap xs _ _ _ hT1.out (by omega) (by omega)).mono ?_; rintro e w2 ⟨m2, k2, rfl, ⟨m20, m21⟩, hT2, hg2⟩
  have y0 : w.heap.size < w2.heap.size := Nat.lt_of_lt_of_le z0 hg2.size
  have n2 : ¬ w2.heap.size = p := by omega
  have hR : Open4 w2 w.heap.size := ((Open4.new w _ _ _ _ _).grown hg1 (by simpa using n0)).grown hg2 (by simpa using n0)
  have hG : w.grownBy w2 (some p) := gthen (gthen (galloc (gref w _) _) hg1) hg2
  replace hR := Lib.hid hR
  replace hG := Lib.hid hG
  replace hT2 := Lib.hid (hT2.more (balloc (bref w2) (.cells #[.int .i64 m1, .int .i64 m2, .int .i64 0, .int .i64 0] 33))).drew
  clear hT0 hT1 hc1 hf1 hg1 hg2
  go_upto_region 2 with fail
  have s1 : IntKind.i64.wrap (ww - m1) = ww - m1 := IntWalk.i64_in _ (by omega)
  have s2 : IntKind.i64.wrap (hh - m2) = hh - m2 := IntWalk.i64_in _ (by omega)
  go_cut [24] (fun s wx => ∃ (m3 m4 : Int) (k : Nat), (0 ≤ m3 ∧ m3 < ww - m1) ∧ (0 ≤ m4 ∧ m4 < hh - m2) ∧ Hid (TapeIn W wx p a cap xs k) ∧ Hid (w2.grownBy wx (some p)) ∧
    wx.cell? ⟨w2.heap.size, 0, none⟩ = some (.int .i64 m1) ∧ wx.cell? ⟨w2.heap.size, 1, none⟩ = some (.int .i64 m2) ∧ wx.cell? ⟨w2.heap.size, 2, none⟩ = some (.int .i64 (m1 + 1 + m3)) ∧ wx.cell? ⟨w2.heap.size, 3, none⟩ = some (.int .i64 (m2 + 1 + m4)))
  case first =>
    have hWS : WS W w2 w2.heap.size p a cap xs m1 m2 (w2.alloc (.cells #[.int .i64 m1, .int .i64 m2, .int .i64 0, .int .i64 0] 33)).drew :=
      ws_mk ⟨_, hT2.out⟩ (gdrew (galloc (gref w2 _) _)) (fun k hk => ((Open4.new w2 _ _ _ _ _) k hk)) (by simp [World.cell?_alloc_new]) (by simp [World.cell?_alloc_new])
    have hW2 : W.heap.size ≤ w2.heap.size := by omega
    go_region_held3 (fun w' => WS W w2 w2.heap.size p a cap xs m1 m2 w') ((first | exact hWS | exact ws_call n2 hT3 hg3 ‹_› | exact ws_call n2 hT4 hg4 ‹_› | exact ws_set n2 (Nat.le_refl _) hW2 (.inl rfl) _ ‹_› | exact ws_set n2 (Nat.le_refl _) hW2 (.inr rfl) _ ‹_›))
      (first
        | (go_at_call_of 9 (Value.int .i64 (ww - m1)); refine (next_some W p a cap xs _ _ (‹WS W w2 w2.heap.size p a cap xs m1 m2 _›).1.out (by omega) (by omega)).mono ?_; rintro e w3 ⟨m3, rfl, ⟨m30, m31⟩, hT3, hg3⟩)
        | (go_at_call 9; refine (next_some W p a cap xs _ _ (‹WS W w2 w2.heap.size p a cap xs m1 m2 _›).1.out (by omega) (by omega)).mono ?_; rintro e w4 ⟨m4, rfl, ⟨m40, m41⟩, hT4, hg4⟩))
    all_goals
      have hF := Lib.hid (‹WS W w2 w2.heap.size p a cap xs m1 m2 ((w4.setCell _ _).setCell _ _)›)
      have hO4 := Lib.hid (show Open4 w4 w2.heap.size from Open4.grown (Open4.grown (Open4.new w2 _ _ _ _ _).drew hg3 (by simpa using n2)) hg4 (by simpa using n2))
      have e1 : IntKind.i64.wrap (IntKind.i64.wrap (m1 + 1) + m3) = m1 + 1 + m3 := by rw [IntWalk.i64_in (m1 + 1) (by omega)]; exact IntWalk.i64_in _ (by omega)
      have e2 : IntKind.i64.wrap (IntKind.i64.wrap (m2 + 1) + m4) = m2 + 1 + m4 := by rw [IntWalk.i64_in (m2 + 1) (by omega)]; exact IntWalk.i64_in _ (by omega)
      go_wp2_with fail
      go_meet
      obtain ⟨hTf, hgf, hof, c0, c1, _⟩ := hF.out
      obtain ⟨kf, hkf⟩ := hTf.out
      exact ⟨m3, m4, kf, ⟨m30, m31⟩, ⟨m40, m41⟩, Lib.hid hkf, hgf, c0, c1, by rw [← e1]; exact (set23 hO4.out _ _).1, by rw [← e2]; exact (set23 hO4.out _ _).2⟩
  case rest =>
    obtain ⟨m3, m4, k5, ⟨m30, m31⟩, ⟨m40, m41⟩, hT5, hg5, c0, c1, c2, c3⟩ := hcut
    have hR5 : Open4 wc w.heap.size := hR.out.grown hg5.out (by simpa using n0)
    have hlt5 := hR5.lt
    have r0 := open_val hR5 0 (by omega)
    have r1 := open_val hR5 1 (by omega)
    have r2 := open_val hR5 2 (by omega)
    have r3 := open_val hR5 3 (by omega)
    have f0 := (hR5 0 (by omega)).2
    have f1 := (hR5 1 (by omega)).2
    have f2 := (hR5 2 (by omega)).2
    have f3 := (hR5 3 (by omega)).2
    replace hR5 := Lib.hid hR5
    go_wp2_with fail
    refine ret_agg4 Try.results17 rfl rfl hR5.out ⟨m1, m2, m1 + 1 + m3, m2 + 1 + m4, k5, rfl, by omega, by omega, ?_, ?_⟩
    · exact (((hT5.out.setq (by omega) n0 _ _).setq (by omega) n0 _ _).setq (by omega) n0 _ _).setq (by omega) n0 _ _
    · exact gput4 (gthen hG.out hg5.out) (.inl (Nat.le_refl _)) _ _ _ _
end Go.Proofs.Ytibmoibhbgbfoaa
