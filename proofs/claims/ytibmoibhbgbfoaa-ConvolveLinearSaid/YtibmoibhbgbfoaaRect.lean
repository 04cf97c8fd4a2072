/- The tape's rectangle of a small plane, in some cases an empty one or one that is not valid, as a contract. -/
import Derived.Test.YtibmoibhbgbfoaaWithin
namespace Go.Proofs.Ytibmoibhbgbfoaa
open Go.ChangeShapes Go.WideShapes Go.ChangeAt Go.RowKit
set_option linter.unusedVariables false
set_option linter.unusedSimpArgs false

/-- some rectangle came back, and beside new blocks the tape's alone has changed -/
def RectPost (W : World) (p : Nat) (a : Option Addr) (cap : Nat) (xs : List Int) (w : World) (e : Ending) (w' : World) : Prop :=
  ∃ (x0 y0 x1 y1 : Int), e = .returned (.agg #[.int .i64 x0, .int .i64 y0, .int .i64 x1, .int .i64 y1]) ∧ ((-2097152 ≤ x0 ∧ x0 ≤ 2097152) ∧ (-2097152 ≤ y0 ∧ y0 ≤ 2097152) ∧ (-2097152 ≤ x1 ∧ x1 ≤ 2097152) ∧ (-2097152 ≤ y1 ∧ y1 ≤ 2097152)) ∧ TapeSome W w' p a cap xs ∧ w.grownBy w' (some p)
theorem two_cells (w : World) (x y : Int) (t : TypeId) : ∀ j, j < [x, y].length → (w.alloc (.cells #[.int .i64 x, .int .i64 y] t)).cell? ⟨w.heap.size, j, none⟩ = some (.int .i64 ([x, y].getD j 0)) := by
  intro j hj
  have : j = 0 ∨ j = 1 := by simp at hj; omega
  rcases this with rfl | rfl <;> simp [World.cell?_alloc_new]
theorem TapeSome.grown {W w : World} {p : Nat} {a : Option Addr} {cap : Nat} {xs : List Int} (h : TapeSome W w p a cap xs) {q : Nat} (hq : W.heap.size ≤ q) (hne : q ≠ p) (o : Nat) (u : Value) : TapeSome W (w.setCell ⟨q, o, none⟩ u) p a cap xs := by
  obtain ⟨k, hk⟩ := h
  exact ⟨k, hk.setq hq hne o u⟩
theorem TapeSome.put {W w : World} {p : Nat} {a : Option Addr} {cap : Nat} {xs : List Int} (h : TapeSome W w p a cap xs) {q : Nat} (hq : W.heap.size ≤ q) (hne : q ≠ p) (v0 v1 v2 v3 : Value) : TapeSome W (put4 w q v0 v1 v2 v3) p a cap xs :=
  (((h.grown hq hne _ _).grown hq hne _ _).grown hq hne _ _).grown hq hne _ _
theorem TapeSome.more {W w w' : World} {p : Nat} {a : Option Addr} {cap : Nat} {xs : List Int} (h : TapeSome W w p a cap xs) (hb : Below w.heap.size w w') : TapeSome W w' p a cap xs := by
  obtain ⟨k, hk⟩ := h
  exact ⟨k, hk.more hb⟩
theorem TapeSome.lt {W w : World} {p : Nat} {a : Option Addr} {cap : Nat} {xs : List Int} (h : TapeSome W w p a cap xs) : p < w.heap.size ∧ W.heap.size ≤ p ∧ W.heap.size ≤ w.heap.size := by
  obtain ⟨k, hk⟩ := h
  exact ⟨hk.lt, hk.lo, hk.below.size⟩
theorem pick_some (W : World) (p : Nat) (a : Option Addr) (cap : Nat) (xs : List Int) (s : Nat) (c : Nat) (ys : List Int) (w : World) (h : TapeSome W w p a cap xs) (hsp : ¬ s = p) (h1 : 1 ≤ ys.length) (h2 : ys.length ≤ 9223372036854775807)
    (hy : ∀ j, j < ys.length → w.cell? ⟨s, j, none⟩ = some (.int .i64 (ys.getD j 0))) :
    Calls Try.prog 11 #[.pointer (some ⟨p, 0, none⟩), .slice (some ⟨s, 0, none⟩) ys.length c] w fun e w' => ∃ m : Int, e = .returned (.int .i64 m) ∧ m ∈ ys ∧ TapeSome W w' p a cap xs ∧ w.grownBy w' (some p) := by
  obtain ⟨k, hk⟩ := h
  exact (pick_any W p a cap xs k s c ys w hk hsp h1 h2 hy).mono fun e w' ⟨m, k', he, hm, hT, hg⟩ => ⟨m, he, hm, ⟨k', hT⟩, hg⟩
theorem pick_two (W : World) (p : Nat) (a : Option Addr) (cap : Nat) (xs : List Int) (x y : Int) (c : Nat) (w : World) (h : TapeSome W w p a cap xs) (t : TypeId) :
    Calls Try.prog 11 #[.pointer (some ⟨p, 0, none⟩), .slice (some ⟨w.heap.size, 0, none⟩) 2 c] (w.alloc (.cells #[.int .i64 x, .int .i64 y] t)) fun e w' => ∃ m : Int, e = .returned (.int .i64 m) ∧ (m = x ∨ m = y) ∧ TapeSome W w' p a cap xs ∧ w.grownBy w' (some p) := by
  have hlt := h.lt
  have := pick_some W p a cap xs w.heap.size c [x, y] (w.alloc (.cells #[.int .i64 x, .int .i64 y] t)) (h.more (balloc (bref w) _)) (by omega) (by simp) (by simp) (two_cells w x y t)
  exact this.mono fun e w' ⟨m, he, hm, hT, hg⟩ => ⟨m, he, by simpa using hm, hT, gthen (galloc (gref w _) _) hg⟩
set_option maxHeartbeats 4000000 in
theorem rect_some (W : World) (p : Nat) (a : Option Addr) (cap : Nat) (xs : List Int) (w : World) (h : TapeSome W w p a cap xs) :
    Calls Try.prog 18 #[.pointer (some ⟨p, 0, none⟩)] w (RectPost W p a cap xs w) := by
  have hT0 := Lib.hid (h.more (balloc (bref w) (.cells #[.int .i64 0, .int .i64 0, .int .i64 0, .int .i64 0] 33)))
  obtain ⟨hp, hWp, hWw⟩ := h.lt
  clear h
  go_enter Try.func18, Try.ntmps18
  go_wp2_with fail
  refine (next_some W p a cap xs _ _ hT0.out (by omega) (by omega)).mono ?_; rintro e w1 ⟨m1, rfl, ⟨m10, m11⟩, hT1, hg1⟩
  replace hT1 := Lib.hid hT1
  obtain ⟨hc1, hf1⟩ := gcell hg1
  have z0 : w.heap.size < w1.heap.size := by have := hg1.size; simp at this; omega
  have n0 : ¬ w.heap.size = p := by omega
  go_wp2_with fail
  refine (next_some W p a cap xs _ _ hT1.out (by omega) (by omega)).mono ?_; rintro e w2 ⟨m2, rfl, ⟨m20, m21⟩, hT2, hg2⟩
  have y0 : w.heap.size < w2.heap.size := Nat.lt_of_lt_of_le z0 hg2.size
  have n2 : ¬ w2.heap.size = p := by omega
  have hR : Open4 w2 w.heap.size := ((Open4.new w _ _ _ _ _).grown hg1 (by simpa using n0)).grown hg2 (by simpa using n0)
  have hG : w.grownBy w2 (some p) := gthen (gthen (galloc (gref w _) _) hg1) hg2
  replace hR := Lib.hid hR
  replace hG := Lib.hid hG
  replace hT2 := Lib.hid hT2
  clear hT0 hT1 hc1 hf1 hg1 hg2
  have b1 : -2 ≤ m1 - 2 := by omega
  have b2 : -2 ≤ m2 - 2 := by omega
  have b3 : m1 - 2 < 6 := by omega
  have b4 : m2 - 2 < 6 := by omega
  go_upto_region 2 with fail
  obtain ⟨X, eX⟩ : ∃ X, m1 - 2 = X := ⟨_, rfl⟩
  obtain ⟨Y, eY⟩ : ∃ Y, m2 - 2 = Y := ⟨_, rfl⟩
  rw [eX] at b1 b3 ⊢
  rw [eY] at b2 b4 ⊢
  clear eX eY m10 m11 m20 m21
  go_cut [22] (fun s wx => ∃ (m3 m4 : Int), (0 ≤ m3 ∧ m3 < 6) ∧ (0 ≤ m4 ∧ m4 < 6) ∧ Hid (TapeSome W wx p a cap xs) ∧ Hid (w2.grownBy wx (some p)) ∧
    wx.cell? ⟨w2.heap.size, 0, none⟩ = some (.int .i64 X) ∧ wx.cell? ⟨w2.heap.size, 1, none⟩ = some (.int .i64 Y) ∧ wx.cell? ⟨w2.heap.size, 2, none⟩ = some (.int .i64 (X + 1 + m3)) ∧ wx.cell? ⟨w2.heap.size, 3, none⟩ = some (.int .i64 (Y + 1 + m4)) ∧ Hid (Open4 wx w2.heap.size))
  case first =>
    have hWS : WS W w2 w2.heap.size p a cap xs X Y (w2.alloc (.cells #[.int .i64 X, .int .i64 Y, .int .i64 0, .int .i64 0] 33)).drew := by
      obtain ⟨k, hk⟩ := hT2.out
      exact ws_mk ⟨k, (hk.more (balloc (bref w2) _)).drew⟩ (gdrew (galloc (gref w2 _) _)) (Open4.new w2 _ _ _ _ _).drew (by simp [World.cell?_alloc_new]) (by simp [World.cell?_alloc_new])
    have hW2 : W.heap.size ≤ w2.heap.size := by omega
    go_region_held3 (fun w' => WS W w2 w2.heap.size p a cap xs X Y w') ((first | exact hWS | exact ws_call n2 hT4 hg4 ‹_› | exact ws_call n2 hT3 hg3 ‹_› | exact ws_set n2 (Nat.le_refl _) hW2 (.inl rfl) _ ‹_› | exact ws_set n2 (Nat.le_refl _) hW2 (.inr rfl) _ ‹_›))
      (first
        | (go_at_call 9; have hx := hT3; clear hx; refine (next_some W p a cap xs _ _ (‹WS W w2 w2.heap.size p a cap xs X Y _›).1.out (by omega) (by omega)).mono ?_; rintro e w4 ⟨m4, rfl, ⟨m40, m41⟩, hT4, hg4⟩)
        | (go_at_call 9; refine (next_some W p a cap xs _ _ (‹WS W w2 w2.heap.size p a cap xs X Y _›).1.out (by omega) (by omega)).mono ?_; rintro e w3 ⟨m3, rfl, ⟨m30, m31⟩, hT3, hg3⟩))
    all_goals
      have hF := Lib.hid (‹WS W w2 w2.heap.size p a cap xs X Y ((w4.setCell _ _).setCell _ _)›)
      have hO4 := Lib.hid (show Open4 w4 w2.heap.size from Open4.grown (Open4.grown (Open4.new w2 _ _ _ _ _).drew hg3 (by simpa using n2)) hg4 (by simpa using n2))
      have e1 : IntKind.i64.wrap (IntKind.i64.wrap (X + 1) + m3) = X + 1 + m3 := by rw [IntWalk.i64_in (X + 1) (by omega)]; exact IntWalk.i64_in _ (by omega)
      have e2 : IntKind.i64.wrap (IntKind.i64.wrap (Y + 1) + m4) = Y + 1 + m4 := by rw [IntWalk.i64_in (Y + 1) (by omega)]; exact IntWalk.i64_in _ (by omega)
      go_wp2_with fail
      go_meet
      obtain ⟨hTf, hgf, hof, c0, c1, _⟩ := hF.out
      exact ⟨m3, m4, ⟨m30, m31⟩, ⟨m40, m41⟩, hTf, hgf, c0, c1, by rw [← e1]; exact (set23 hO4.out _ _).1, by rw [← e2]; exact (set23 hO4.out _ _).2, hof⟩
  case rest =>
    obtain ⟨m3, m4, ⟨m30, m31⟩, ⟨m40, m41⟩, hT5, hg5, c0, c1, c2, c3, hO5⟩ := hcut
    go_wp2_with fail
    refine (next_some W p a cap xs _ _ hT5.out (by omega) (by omega)).mono ?_; rintro e w6 ⟨m5, rfl, ⟨m50, m51⟩, hT6, hg6⟩
    have d0 := hg6.cell c0 (by simpa using n2)
    have d1 := hg6.cell c1 (by simpa using n2)
    have d2 := hg6.cell c2 (by simpa using n2)
    have d3 := hg6.cell c3 (by simpa using n2)
    have hO6 := Lib.hid (hO5.out.grown hg6 (by simpa using n2))
    have hG6 := Lib.hid (gthen (gthen hG.out hg5.out) hg6)
    have hR6 := (hR.out.grown hg5.out (by simpa using n0)).grown hg6 (by simpa using n0)
    have r0 := open_val hR6 0 (by omega)
    have r1 := open_val hR6 1 (by omega)
    have r2 := open_val hR6 2 (by omega)
    have r3 := open_val hR6 3 (by omega)
    have f0 := (hR6 0 (by omega)).2
    have f1 := (hR6 1 (by omega)).2
    have f2 := (hR6 2 (by omega)).2
    have f3 := (hR6 3 (by omega)).2
    have g0 := (hO6.out 0 (by omega)).2
    have g2 := (hO6.out 2 (by omega)).2
    replace hR6 := Lib.hid hR6
    replace hT6 := Lib.hid hT6
    have hqw : ¬ w2.heap.size = w.heap.size := by omega
    have hwq : ¬ w.heap.size = w2.heap.size := by omega
    clear c0 c1 c2 c3 hT5 hg5 hO5 hg6 hR hG hT2
    by_cases e11 : m5 = 11
    · subst e11
      go_wp2_with fail
      refine ret_agg4 Try.results18 rfl rfl hR6.out ⟨0, 0, 0, 0, rfl, by omega, hT6.out.put (by omega) n0 _ _ _ _, gput4 hG6.out (.inl (Nat.le_refl _)) _ _ _ _⟩
    · by_cases e12 : m5 = 12
      · subst e12
        go_wp2_with fail
        refine ret_agg4 Try.results18 rfl rfl (hR6.out.set _ _) ⟨X, Y, X, Y + 1 + m4, rfl, by omega, (hT6.out.grown (by omega) n2 _ _).put (by omega) n0 _ _ _ _, gput4 (gset hG6.out (.inl (by omega)) _ _) (.inl (Nat.le_refl _)) _ _ _ _⟩
      · by_cases e13 : m5 = 13
        · subst e13
          go_wp2_with fail
          refine (pick_two W p a cap xs _ _ _ _ hT6.out _).mono ?_; rintro e w7 ⟨m6, rfl, hm6, hT7, hg7⟩
          have d0 := hg7.cell d0 (by simpa using n2)
          have d1 := hg7.cell d1 (by simpa using n2)
          have d2 := hg7.cell d2 (by simpa using n2)
          have d3 := hg7.cell d3 (by simpa using n2)
          have hO7 := Lib.hid (hO6.out.grown hg7 (by simpa using n2))
          have hG7 := Lib.hid (gthen hG6.out hg7)
          have hR7 := hR6.out.grown hg7 (by simpa using n0)
          clear r0 r1 r2 r3 f0 f1 f2 f3 g0 g2
          have r0 := open_val hR7 0 (by omega)
          have r1 := open_val hR7 1 (by omega)
          have r2 := open_val hR7 2 (by omega)
          have r3 := open_val hR7 3 (by omega)
          have f0 := (hR7 0 (by omega)).2
          have f1 := (hR7 1 (by omega)).2
          have f2 := (hR7 2 (by omega)).2
          have f3 := (hR7 3 (by omega)).2
          have g0 := (hO7.out 0 (by omega)).2
          have g2 := (hO7.out 2 (by omega)).2
          replace hR7 := Lib.hid hR7
          replace hT7 := Lib.hid hT7
          clear hg7 hO6 hG6 hR6 hT6
          go_wp2_with fail
          refine (pick_two W p a cap xs _ _ _ _ hT7.out _).mono ?_; rintro e w8 ⟨m7, rfl, hm7, hT8, hg8⟩
          have d0 := hg8.cell d0 (by simpa using n2)
          have d1 := hg8.cell d1 (by simpa using n2)
          have d2 := hg8.cell d2 (by simpa using n2)
          have d3 := hg8.cell d3 (by simpa using n2)
          have hO8 := Lib.hid (hO7.out.grown hg8 (by simpa using n2))
          have hG8 := Lib.hid (gthen hG7.out hg8)
          have hR8 := hR7.out.grown hg8 (by simpa using n0)
          clear r0 r1 r2 r3 f0 f1 f2 f3 g0 g2
          have r0 := open_val hR8 0 (by omega)
          have r1 := open_val hR8 1 (by omega)
          have r2 := open_val hR8 2 (by omega)
          have r3 := open_val hR8 3 (by omega)
          have f0 := (hR8 0 (by omega)).2
          have f1 := (hR8 1 (by omega)).2
          have f2 := (hR8 2 (by omega)).2
          have f3 := (hR8 3 (by omega)).2
          have g0 := (hO8.out 0 (by omega)).2
          have g2 := (hO8.out 2 (by omega)).2
          replace hR8 := Lib.hid hR8
          replace hT8 := Lib.hid hT8
          clear hg8 hO7 hG7 hR7 hT7
          go_wp2_with fail
          refine ret_agg4 Try.results18 rfl rfl ((hR8.out.set _ _).set _ _) ⟨m6, Y, m7, Y + 1 + m4, rfl, by omega, ((hT8.out.grown (by omega) n2 _ _).grown (by omega) n2 _ _).put (by omega) n0 _ _ _ _, gput4 (gset (gset hG8.out (.inl (by omega)) _ _) (.inl (by omega)) _ _) (.inl (Nat.le_refl _)) _ _ _ _⟩
        · have q1 : (m5 == 11) = false := by simpa using e11
          have q2 : (m5 == 12) = false := by simpa using e12
          have q3 : (m5 == 13) = false := by simpa using e13
          go_wp2_with fail
          refine ret_agg4 Try.results18 rfl rfl hR6.out ⟨X, Y, X + 1 + m3, Y + 1 + m4, rfl, by omega, hT6.out.put (by omega) n0 _ _ _ _, gput4 hG6.out (.inl (Nat.le_refl _)) _ _ _ _⟩
end Go.Proofs.Ytibmoibhbgbfoaa
