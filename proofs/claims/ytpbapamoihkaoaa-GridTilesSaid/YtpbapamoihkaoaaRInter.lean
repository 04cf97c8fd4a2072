/- Intersect, Hull and Outset, of the program and of the reference, as contracts: what each returns; the world gets new blocks at most. -/
import Derived.Test.YtpbapamoihkaoaaRPair
namespace Go.Proofs.Ytpbapamoihkaoaa
open Go.ChangeShapes Go.WideShapes Go.ChangeAt Go.RowKit
set_option linter.unusedVariables false
set_option linter.unusedSimpArgs false

def Rc.val (r : Rc) : Value := .agg #[.int .i64 r.x0, .int .i64 r.y0, .int .i64 r.x1, .int .i64 r.y1]
/-- a rectangle came back, and only new blocks came -/
def RcPost (r : Rc) (w : World) (e : Ending) (w' : World) : Prop := e = .returned (.agg #[.int .i64 r.x0, .int .i64 r.y0, .int .i64 r.x1, .int .i64 r.y1]) ∧ Below w.heap.size w w'
theorem ret_rc {a b c d a' b' c' d' : Int} (h : Rc.mk a b c d = ⟨a', b', c', d'⟩) : Ending.returned (.agg #[.int .i64 a, .int .i64 b, .int .i64 c, .int .i64 d]) = .returned (.agg #[.int .i64 a', .int .i64 b', .int .i64 c', .int .i64 d']) := by
  simp only [Rc.mk.injEq] at h; obtain ⟨rfl, rfl, rfl, rfl⟩ := h; rfl
theorem notB {b : Bool} (h : b = true) : (!b) = false := by rw [h]; rfl
/-- four cells lie there -/
def There4 (w : World) (p : Nat) : Prop := ∀ k, k < 4 → ∃ u, w.cell? ⟨p, k, none⟩ = some u
theorem There4.below {a b : World} {p : Nat} (h : There4 a p) (hb : Below a.heap.size a b) : There4 b p := fun k hk => by
  obtain ⟨u, hu⟩ := h k hk
  exact ⟨u, by rw [hb.cell (World.block_lt_of_cell? _ _ hu)]; exact hu⟩
theorem There4.alloc {a : World} {p : Nat} (h : There4 a p) (o : Obj) : There4 (a.alloc o) p := h.below ((Below.refl _ _).alloc (Nat.le_refl _) _)
theorem There4.new (a : World) (v0 v1 v2 v3 : Value) (t : TypeId) : There4 (a.alloc (.cells #[v0, v1, v2, v3] t)) a.heap.size := fun k hk => by
  have : k = 0 ∨ k = 1 ∨ k = 2 ∨ k = 3 := by omega
  rcases this with rfl | rfl | rfl | rfl
  · exact ⟨v0, by simp [World.cell?_alloc_new]⟩
  · exact ⟨v1, by simp [World.cell?_alloc_new]⟩
  · exact ⟨v2, by simp [World.cell?_alloc_new]⟩
  · exact ⟨v3, by simp [World.cell?_alloc_new]⟩
theorem There4.at {a : World} {p q : Nat} (h : There4 a p) (e : p = q) : There4 a q := e ▸ h
theorem There4.lt {a : World} {p : Nat} (h : There4 a p) : p < a.heap.size := by
  obtain ⟨u, hu⟩ := h 0 (by omega)
  exact World.block_lt_of_cell? _ _ hu
/-- four cells written -/
abbrev set4 (w : World) (p : Nat) (v0 v1 v2 v3 : Value) : World := (((w.setCell ⟨p, 0, none⟩ v0).setCell ⟨p, 1, none⟩ v1).setCell ⟨p, 2, none⟩ v2).setCell ⟨p, 3, none⟩ v3
theorem set4_at {w : World} {p : Nat} (h : There4 w p) (v0 v1 v2 v3 : Value) :
    (set4 w p v0 v1 v2 v3).cell? ⟨p, 0, none⟩ = some v0 ∧ (set4 w p v0 v1 v2 v3).cell? ⟨p, 1, none⟩ = some v1 ∧ (set4 w p v0 v1 v2 v3).cell? ⟨p, 2, none⟩ = some v2 ∧ (set4 w p v0 v1 v2 v3).cell? ⟨p, 3, none⟩ = some v3 := by
  obtain ⟨u0, h0⟩ := h 0 (by omega)
  obtain ⟨u1, h1⟩ := h 1 (by omega)
  obtain ⟨u2, h2⟩ := h 2 (by omega)
  obtain ⟨u3, h3⟩ := h 3 (by omega)
  refine ⟨?_, ?_, ?_, ?_⟩
  · rw [World.cell?_setCell_other _ _ _ _ (by simp), World.cell?_setCell_other _ _ _ _ (by simp), World.cell?_setCell_other _ _ _ _ (by simp)]
    exact World.cell?_setCell_same _ _ _ h0
  · rw [World.cell?_setCell_other _ _ _ _ (by simp), World.cell?_setCell_other _ _ _ _ (by simp)]
    refine World.cell?_setCell_same _ _ _ (u := u1) ?_
    rw [World.cell?_setCell_other _ _ _ _ (by simp)]; exact h1
  · rw [World.cell?_setCell_other _ _ _ _ (by simp)]
    refine World.cell?_setCell_same _ _ _ (u := u2) ?_
    rw [World.cell?_setCell_other _ _ _ _ (by simp), World.cell?_setCell_other _ _ _ _ (by simp)]; exact h2
  · refine World.cell?_setCell_same _ _ _ (u := u3) ?_
    rw [World.cell?_setCell_other _ _ _ _ (by simp), World.cell?_setCell_other _ _ _ _ (by simp), World.cell?_setCell_other _ _ _ _ (by simp)]; exact h3
theorem bset4 {w a : World} (h : Below w.heap.size w a) {p : Nat} (hp : w.heap.size ≤ p) (v0 v1 v2 v3 : Value) : Below w.heap.size w (set4 a p v0 v1 v2 v3) :=
  (((h.setCell (by simpa using hp) _).setCell (by simpa using hp) _).setCell (by simpa using hp) _).setCell (by simpa using hp) _
/-- a rectangle handed back out of its variable -/
theorem ret_rect {fn : Func} {a : Act} {w w1 : World} {p s : Nat} {r : Rc} {x0 y0 x1 y1 : Int} (hres : fn.results = #[.cell s 31]) (hs : a.tmps.getD s undef = .pointer (some ⟨p, 0, none⟩)) (hd : a.defers = [])
    (ht : There4 w1 p) (hp : w.heap.size ≤ p) (hb : Below w.heap.size w w1) (hr : Rc.mk x0 y0 x1 y1 = ⟨r.x0, r.y0, r.x1, r.y1⟩) :
    bodyPost Try.prog fn (RcPost r w) .ret a (set4 w1 p (.int .i64 x0) (.int .i64 y0) (.int .i64 x1) (.int .i64 y1)) := by
  obtain ⟨k0, k1, k2, k3⟩ := set4_at ht (.int .i64 x0) (.int .i64 y0) (.int .i64 x1) (.int .i64 y1)
  have hb' := bset4 hb hp (.int .i64 x0) (.int .i64 y0) (.int .i64 x1) (.int .i64 y1)
  obtain ⟨w9, e9⟩ : ∃ w9, w9 = set4 w1 p (.int .i64 x0) (.int .i64 y0) (.int .i64 x1) (.int .i64 y1) := ⟨_, rfl⟩
  rw [← e9] at k0 k1 k2 k3 hb' ⊢
  clear e9
  refine bodyPost_ret (v := .agg #[.int .i64 x0, .int .i64 y0, .int .i64 x1, .int .i64 y1]) ?_ hd ⟨ret_rc hr, hb'⟩
  rw [Array.getD_eq_getD_getElem?] at hs
  simp [results, hres, hs, go_sem, k0, k1, k2, k3]

set_option maxHeartbeats 2000000 in
theorem inter_any (a b c d a' b' c' d' : Int) (w : World) :
    Calls Try.prog 32 #[.agg #[.int .i64 a, .int .i64 b, .int .i64 c, .int .i64 d], .agg #[.int .i64 a', .int .i64 b', .int .i64 c', .int .i64 d']] w (RcPost (interR a b c d a' b' c' d') w) := by
  rcases hv : validB a b c d with _ | _
  · have hv' := Lib.hid hv
    go_enter Try.func32, Try.ntmps32
    go_wp2_with fail
    refine (valid_any _ _ _ _ _).mono ?_; rintro e w1 ⟨rfl, hb⟩; obtain ⟨hc, hf⟩ := bcell hb
    obtain ⟨z0, z1, z2, z3⟩ := sz3 hb
    go_wp2_with fail
    exact ret_rect Try.results32 rfl rfl (((There4.new _ _ _ _ _ _).at (by simp)).below hb) (by omega) (bthen (balloc (balloc (balloc (bref w) _) _) _) hb) (inter_u (.inl hv'.out))
  · rcases hu : validB a' b' c' d' with _ | _
    · have hv' := Lib.hid hv
      have hu' := Lib.hid hu
      go_enter Try.func32, Try.ntmps32
      go_wp2_with fail
      refine (valid_any _ _ _ _ _).mono ?_; rintro e w1 ⟨rfl, hb⟩; obtain ⟨hc, hf⟩ := bcell hb
      obtain ⟨z0, z1, z2, z3⟩ := sz3 hb
      go_wp2_with fail
      refine (valid_any _ _ _ _ _).mono ?_; rintro e w2 ⟨rfl, hb2⟩; obtain ⟨hc2, hf2⟩ := bcell hb2
      have y0 := bmore hb2 z0
      have y1 := bmore hb2 z1
      have y2 := bmore hb2 z2
      go_wp2_with fail
      exact ret_rect Try.results32 rfl rfl ((((There4.new _ _ _ _ _ _).at (by simp)).below hb).below hb2) (by omega) (bthen (bthen (balloc (balloc (balloc (bref w) _) _) _) hb) hb2) (inter_u (.inr hu'.out))
    · have hv' := Lib.hid hv
      have hu' := Lib.hid hu
      go_enter Try.func32, Try.ntmps32
      go_wp2_with fail
      refine (valid_any _ _ _ _ _).mono ?_; rintro e w1 ⟨rfl, hb⟩; obtain ⟨hc, hf⟩ := bcell hb
      obtain ⟨z0, z1, z2, z3⟩ := sz3 hb
      go_wp2_with fail
      refine (valid_any _ _ _ _ _).mono ?_; rintro e w2 ⟨rfl, hb2⟩; obtain ⟨hc2, hf2⟩ := bcell hb2
      have y0 := bmore hb2 z0
      have y1 := bmore hb2 z1
      have y2 := bmore hb2 z2
      go_wp2_with fail
      all_goals
        refine (valid_any _ _ _ _ _).mono ?_; rintro e w3 ⟨rfl, hb3⟩; obtain ⟨hc3, hf3⟩ := bcell hb3
        go_wp2_with fail
        all_goals first
          | exact ret_rect Try.results32 rfl rfl ((((((There4.new _ _ _ _ _ _).at (by simp)).below hb).below hb2).alloc _).below hb3) (by omega) (bthen (balloc (bthen (bthen (balloc (balloc (balloc (bref w) _) _) _) hb) hb2) _) hb3) (inter_t hv'.out hu'.out (by assumption) (by omega) (by omega) (by omega) (by omega))
          | exact ret_rect Try.results32 rfl rfl ((((((There4.new _ _ _ _ _ _).at (by simp)).below hb).below hb2).alloc _).below hb3) (by omega) (bthen (balloc (bthen (bthen (balloc (balloc (balloc (bref w) _) _) _) hb) hb2) _) hb3) (inter_t hv'.out hu'.out (notB hv'.out) (by omega) (by omega) (by omega) (by omega))
          | exact ret_rect Try.results32 rfl rfl ((((((There4.new _ _ _ _ _ _).at (by simp)).below hb).below hb2).alloc _).below hb3) (by omega) (bthen (balloc (bthen (bthen (balloc (balloc (balloc (bref w) _) _) _) hb) hb2) _) hb3) (inter_t hv'.out hu'.out (notB hu'.out) (by omega) (by omega) (by omega) (by omega))
          | exact ret_rect Try.results32 rfl rfl ((((((There4.new _ _ _ _ _ _).at (by simp)).below hb).below hb2).alloc _).below hb3) (by omega) (bthen (balloc (bthen (bthen (balloc (balloc (balloc (bref w) _) _) _) hb) hb2) _) hb3) (inter_f hv'.out hu'.out (by assumption) (by omega) (by omega) (by omega) (by omega))
end Go.Proofs.Ytpbapamoihkaoaa
