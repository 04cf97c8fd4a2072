/- Rectangles as four integers: which are valid, and what each function of two of them gives. Plain integers; no program is named. The functions of package rect and of its reference that only compute a test or a number, as contracts: what each returns; the world gets new blocks at most. The functions of two rectangles, of the program and of the reference, that return a test or one rectangle, as contracts: what each returns; the world gets new blocks at most. Intersect, Hull and Outset, of the program and of the reference, as contracts: what each returns; the world gets new blocks at most. Plain facts on intersections, hulls and outsets, in the form in which the walks meet them. Inside of the program as a contract: what it returns; the world gets new blocks at most. -/
import Derived.Test.YtibmoibhbgbfoaaRows
import Derived.Test.YtibmoibhbgbfoaaBase
import Derived.WalkKit
import Derived.ProofKit
import Derived.OpenShut
import Derived.IntWalk
import Derived.Lib.Hide
import Derived.Below
import Derived.Handy
import Derived.Deep.RegionHeld3
import Derived.Deep.DeepCutAuto
namespace Go.Proofs.Ytibmoibhbgbfoaa
set_option linter.unusedVariables false

/-- a rectangle as four integers -/
structure Rc where
  x0 : Int
  y0 : Int
  x1 : Int
  y1 : Int
deriving DecidableEq

def emptyB (a b c d : Int) : Bool := decide (a = 0 ∧ b = 0 ∧ c = 0 ∧ d = 0)
def validB (a b c d : Int) : Bool := decide ((a = 0 ∧ b = 0 ∧ c = 0 ∧ d = 0) ∨ (-1048576 ≤ a ∧ a < c ∧ c ≤ 1048576 ∧ -1048576 ≤ b ∧ b < d ∧ d ≤ 1048576))
theorem validB_t {a b c d : Int} : validB a b c d = true ↔ ((a = 0 ∧ b = 0 ∧ c = 0 ∧ d = 0) ∨ (-1048576 ≤ a ∧ a < c ∧ c ≤ 1048576 ∧ -1048576 ≤ b ∧ b < d ∧ d ≤ 1048576)) := by simp [validB]
theorem validB_f {a b c d : Int} : validB a b c d = false ↔ ¬ ((a = 0 ∧ b = 0 ∧ c = 0 ∧ d = 0) ∨ (-1048576 ≤ a ∧ a < c ∧ c ≤ 1048576 ∧ -1048576 ≤ b ∧ b < d ∧ d ≤ 1048576)) := by rw [← validB_t]; simp
theorem emptyB_t {a b c d : Int} : emptyB a b c d = true ↔ (a = 0 ∧ b = 0 ∧ c = 0 ∧ d = 0) := by simp [emptyB]
theorem emptyB_f {a b c d : Int} : emptyB a b c d = false ↔ ¬ (a = 0 ∧ b = 0 ∧ c = 0 ∧ d = 0) := by rw [← emptyB_t]; simp
def coordB (a : Int) : Bool := decide (-1048576 ≤ a ∧ a ≤ 1048576)
theorem coordB_t {a : Int} : coordB a = true ↔ (-1048576 ≤ a ∧ a ≤ 1048576) := by simp [coordB]
theorem coordB_f {a : Int} : coordB a = false ↔ ¬ (-1048576 ≤ a ∧ a ≤ 1048576) := by rw [← coordB_t]; simp
def fullB (a b c d : Int) : Bool := validB a b c d && !emptyB a b c d
def areaN (a b c d : Int) : Int := if validB a b c d = true then (c - a) * (d - b) else 0
def containsB (a b c d x y : Int) : Bool := decide (validB a b c d = true ∧ a ≤ x ∧ x < c ∧ b ≤ y ∧ y < d)
theorem containsB_t {a b c d x y : Int} : containsB a b c d x y = true ↔ (validB a b c d = true ∧ a ≤ x ∧ x < c ∧ b ≤ y ∧ y < d) := by simp [containsB]
def interR (a b c d e f g h : Int) : Rc := if validB a b c d = true ∧ validB e f g h = true ∧ max a e < min c g ∧ max b f < min d h then ⟨max a e, max b f, min c g, min d h⟩ else ⟨0, 0, 0, 0⟩
def insideB (a b c d e f g h : Int) : Bool := decide (validB a b c d = true ∧ validB e f g h = true ∧ ((a = 0 ∧ b = 0 ∧ c = 0 ∧ d = 0) ∨ (e ≤ a ∧ f ≤ b ∧ c ≤ g ∧ d ≤ h)))
theorem insideB_t {a b c d e f g h : Int} : insideB a b c d e f g h = true ↔ (validB a b c d = true ∧ validB e f g h = true ∧ ((a = 0 ∧ b = 0 ∧ c = 0 ∧ d = 0) ∨ (e ≤ a ∧ f ≤ b ∧ c ≤ g ∧ d ≤ h))) := by simp [insideB]
def hullR (a b c d e f g h : Int) : Rc :=
  if validB a b c d = true ∧ validB e f g h = true then
    if emptyB a b c d = true then ⟨e, f, g, h⟩ else if emptyB e f g h = true then ⟨a, b, c, d⟩ else ⟨min a e, min b f, max c g, max d h⟩
  else ⟨0, 0, 0, 0⟩
def moveB (l : Int) : Bool := decide (0 ≤ l ∧ l ≤ 1048576)
def outR (a b c d l t r u : Int) : Rc :=
  if fullB a b c d = true ∧ (0 ≤ l ∧ l ≤ 1048576) ∧ (0 ≤ t ∧ t ≤ 1048576) ∧ (0 ≤ r ∧ r ≤ 1048576) ∧ (0 ≤ u ∧ u ≤ 1048576) ∧ validB (a - l) (b - t) (c + r) (d + u) = true then ⟨a - l, b - t, c + r, d + u⟩ else ⟨0, 0, 0, 0⟩
theorem inter_t {a b c d e f g h p q r s : Int} (hv : validB a b c d = true) (hu : validB e f g h = true) (hk : (!validB p q r s) = false) (h0 : p = max a e) (h1 : q = max b f) (h2 : r = min c g) (h3 : s = min d h) : Rc.mk p q r s = ⟨(interR a b c d e f g h).x0, (interR a b c d e f g h).y0, (interR a b c d e f g h).x1, (interR a b c d e f g h).y1⟩ := by
  rw [Bool.not_eq_false', validB_t] at hk
  unfold interR
  split
  · rw [Rc.mk.injEq]; exact ⟨h0, h1, h2, h3⟩
  · rename_i hn
    have : ¬ (max a e < min c g ∧ max b f < min d h) := fun hh => hn ⟨hv, hu, hh.1, hh.2⟩
    rw [Rc.mk.injEq]
    show p = 0 ∧ q = 0 ∧ r = 0 ∧ s = 0
    omega
theorem inter_f {a b c d e f g h p q r s : Int} (hv : validB a b c d = true) (hu : validB e f g h = true) (hk : (!validB p q r s) = true) (h0 : p = max a e) (h1 : q = max b f) (h2 : r = min c g) (h3 : s = min d h) : Rc.mk 0 0 0 0 = ⟨(interR a b c d e f g h).x0, (interR a b c d e f g h).y0, (interR a b c d e f g h).x1, (interR a b c d e f g h).y1⟩ := by
  rw [Bool.not_eq_true', validB_f] at hk
  rw [validB_t] at hv hu
  unfold interR
  split
  · rename_i hn
    rw [Rc.mk.injEq]
    exfalso
    have := hn.2.2
    omega
  · rfl
theorem inter_u {a b c d e f g h : Int} (hv : validB a b c d = false ∨ validB e f g h = false) : Rc.mk 0 0 0 0 = ⟨(interR a b c d e f g h).x0, (interR a b c d e f g h).y0, (interR a b c d e f g h).x1, (interR a b c d e f g h).y1⟩ := by
  unfold interR
  rw [if_neg]
  rintro ⟨h1, h2, _⟩
  rcases hv with h | h <;> simp_all
/-- an int of Go -/
def In64 (a : Int) : Prop := -9223372036854775808 ≤ a ∧ a ≤ 9223372036854775807
open Go.ChangeShapes Go.WideShapes Go.ChangeAt Go.RowKit
set_option linter.unusedVariables false
set_option linter.unusedSimpArgs false

theorem empty_any (a b c d : Int) (w : World) :
    Calls Try.prog 37 #[.agg #[.int .i64 a, .int .i64 b, .int .i64 c, .int .i64 d]] w (TestPost (emptyB a b c d) w) := by
  go_enter Try.func37, Try.ntmps37
  go_wp2
  all_goals
    go_ret
    refine ⟨ret_bool ?_, balloc (bref _) _⟩
    rw [Bool.eq_iff_iff]; simp [emptyB] <;> omega
theorem rempty_any (a b c d : Int) (w : World) :
    Calls Try.prog 53 #[.agg #[.int .i64 a, .int .i64 b, .int .i64 c, .int .i64 d]] w (TestPost (emptyB a b c d) w) := by
  go_enter Try.func53, Try.ntmps53
  go_wp2
  all_goals
    go_ret
    refine ⟨ret_bool ?_, balloc (bref _) _⟩
    rw [Bool.eq_iff_iff]; simp [emptyB] <;> omega
theorem coord_any (a : Int) (w : World) :
    Calls Try.prog 70 #[.int .i64 a] w fun e w' => e = .returned (.bool (coordB a)) ∧ w = w' := by
  go_enter Try.func70, Try.ntmps70
  go_wp2
  all_goals
    go_ret
    refine ⟨ret_bool ?_, rfl⟩
    rw [Bool.eq_iff_iff]; simp [coordB] <;> omega
set_option maxHeartbeats 400000 in
theorem valid_any (a b c d : Int) (w : World) :
    Calls Try.prog 61 #[.agg #[.int .i64 a, .int .i64 b, .int .i64 c, .int .i64 d]] w (TestPost (validB a b c d) w) := by
  rcases he : emptyB a b c d with _ | _
  all_goals
    have he' := Lib.hid he
    go_enter Try.func61, Try.ntmps61
    go_wp2_with (go_at_call 37; refine (empty_any _ _ _ _ _).mono ?_; rintro e w1 ⟨rfl, hb⟩; obtain ⟨hc, hf⟩ := bcell hb)
    all_goals
      go_ret
      refine ⟨ret_bool ?_, bthen (balloc (bref _) _) hb⟩
      have he2 := he'.out
      clear hc hf hb he' he
      rw [Bool.eq_iff_iff, validB_t]
      first | rw [emptyB_f] at he2 | rw [emptyB_t] at he2
      simp <;> omega
set_option maxHeartbeats 1000000 in
theorem rvalid_any (a b c d : Int) (w : World) :
    Calls Try.prog 65 #[.agg #[.int .i64 a, .int .i64 b, .int .i64 c, .int .i64 d]] w (TestPost (validB a b c d) w) := by
  go_enter Try.func65, Try.ntmps65
  go_wp2_with (go_at_call 70; refine (coord_any _ _).mono ?_; rintro e w' ⟨rfl, rfl⟩)
  all_goals
    go_ret
    refine ⟨ret_bool ?_, balloc (bref _) _⟩
    rw [Bool.eq_iff_iff, validB_t]
    simp [coordB_t] at * <;> omega
set_option maxHeartbeats 400000 in
theorem full_any (a b c d : Int) (w : World) :
    Calls Try.prog 45 #[.agg #[.int .i64 a, .int .i64 b, .int .i64 c, .int .i64 d]] w (TestPost (fullB a b c d) w) := by
  rcases hv : validB a b c d with _ | _
  · have hv' := Lib.hid hv
    go_enter Try.func45, Try.ntmps45
    go_wp2_with (first
      | (go_at_call 65; refine (rvalid_any _ _ _ _ _).mono ?_; rintro e w1 ⟨rfl, hb⟩; obtain ⟨hc, hf⟩ := bcell hb))
    go_ret
    exact ⟨ret_bool (by simp [fullB, hv'.out]), bthen (balloc (bref _) _) hb⟩
  · have hv' := Lib.hid hv
    go_enter Try.func45, Try.ntmps45
    go_wp2_with (first
      | (go_at_call 65; refine (rvalid_any _ _ _ _ _).mono ?_; rintro e w1 ⟨rfl, hb⟩; obtain ⟨hc, hf⟩ := bcell hb)
      | (go_at_call 53; refine (rempty_any _ _ _ _ _).mono ?_; rintro e w2 ⟨rfl, hb2⟩))
    go_ret
    exact ⟨ret_bool (by simp [fullB, hv'.out]), bthen (bthen (balloc (bref _) _) hb) hb2⟩
open Go.ChangeShapes Go.WideShapes Go.ChangeAt Go.RowKit
set_option linter.unusedVariables false
set_option linter.unusedSimpArgs false

set_option maxHeartbeats 1000000 in
theorem rinside_any (a b c d e f g h : Int) (w : World) :
    Calls Try.prog 46 #[.agg #[.int .i64 a, .int .i64 b, .int .i64 c, .int .i64 d], .agg #[.int .i64 e, .int .i64 f, .int .i64 g, .int .i64 h]] w (TestPost (insideB a b c d e f g h) w) := by
  rcases hv : validB a b c d with _ | _
  · have hv' := Lib.hid hv
    go_enter Try.func46, Try.ntmps46
    go_wp2_with (first
      | (go_at_call 65; refine (rvalid_any _ _ _ _ _).mono ?_; rintro e w1 ⟨rfl, hb⟩; obtain ⟨hc, hf⟩ := bcell hb))
    go_ret
    refine ⟨ret_bool ?_, bthen (balloc (balloc (bref _) _) _) hb⟩
    rw [Bool.eq_iff_iff, insideB_t, hv'.out]
    simp
  · rcases hu : validB e f g h with _ | _
    · have hv' := Lib.hid hv
      have hu' := Lib.hid hu
      go_enter Try.func46, Try.ntmps46
      go_wp2_with fail
      refine (rvalid_any _ _ _ _ _).mono ?_; rintro e w1 ⟨rfl, hb⟩; obtain ⟨hc, hf⟩ := bcell hb
      go_wp2_with fail
      refine (rvalid_any _ _ _ _ _).mono ?_; rintro e w2 ⟨rfl, hb2⟩; obtain ⟨hc2, hf2⟩ := bcell hb2
      go_wp2_with fail
      go_ret
      refine ⟨ret_bool ?_, bthen (bthen (balloc (balloc (bref _) _) _) hb) hb2⟩
      rw [Bool.eq_iff_iff, insideB_t, hv'.out, hu'.out]
      simp
    · rcases he : emptyB a b c d with _ | _
      all_goals
        have hv' := Lib.hid hv
        have hu' := Lib.hid hu
        have he' := Lib.hid he
        go_enter Try.func46, Try.ntmps46
        go_wp2_with fail
        refine (rvalid_any _ _ _ _ _).mono ?_; rintro e w1 ⟨rfl, hb⟩; obtain ⟨hc, hf⟩ := bcell hb
        obtain ⟨z0, z1⟩ := sz2 hb
        go_wp2_with fail
        refine (rvalid_any _ _ _ _ _).mono ?_; rintro e w2 ⟨rfl, hb2⟩; obtain ⟨hc2, hf2⟩ := bcell hb2
        have y0 := bmore hb2 z0
        have y1 := bmore hb2 z1
        go_wp2_with fail
        refine (rempty_any _ _ _ _ _).mono ?_; rintro e w3 ⟨rfl, hb3⟩; obtain ⟨hc3, hf3⟩ := bcell hb3
        go_wp2_with fail
        all_goals
          go_ret
          refine ⟨ret_bool ?_, bthen (bthen (bthen (balloc (balloc (bref _) _) _) hb) hb2) hb3⟩
          clear hc hf hc2 hf2 hc3 hf3
          have he2 := he'.out
          first | rw [emptyB_t] at he2 | rw [emptyB_f] at he2
          rw [Bool.eq_iff_iff, insideB_t, hv'.out, hu'.out]
          simp <;> omega
open Go.ChangeShapes Go.WideShapes Go.ChangeAt Go.RowKit
set_option linter.unusedVariables false
set_option linter.unusedSimpArgs false

def Rc.val (r : Rc) : Value := .agg #[.int .i64 r.x0, .int .i64 r.y0, .int .i64 r.x1, .int .i64 r.y1]
/-- a rectangle came back, and only new blocks came -/
def RcPost (r : Rc) (w : World) (e : Ending) (w' : World) : Prop := e = .returned (.agg #[.int .i64 r.x0, .int .i64 r.y0, .int .i64 r.x1, .int .i64 r.y1]) ∧ Below w.heap.size w w'
theorem ret_rc {a b c d a' b' c' d' : Int} (h : Rc.mk a b c d = ⟨a', b', c', d'⟩) : Ending.returned (.agg #[.int .i64 a, .int .i64 b, .int .i64 c, .int .i64 d]) = .returned (.agg #[.int .i64 a', .int .i64 b', .int .i64 c', .int .i64 d']) := by
  simp only [Rc.mk.injEq] at h; obtain ⟨rfl, rfl, rfl, rfl⟩ := h; rfl
theorem notB {b : Bool} (h : b = true) : (!b) = false := by rw [h]; rfl
/-- four cells lie there -/
def There4 (w : World) (p : Nat) : Prop := ∀ k, k < 4 → ∃ u, w.cell? ⟨p, k, none⟩ = some u
theorem There4.below {a b : World} {p : Nat} (h : There4 a p) (hb : Below a.heap.size a b) : There4 b p := fun k hk => by
  obtain ⟨u, hu⟩ := h k hk
  exact ⟨u, by rw [hb.cell (World.block_lt_of_cell? _ _ hu)]; exact hu⟩
theorem There4.alloc {a : World} {p : Nat} (h : There4 a p) (o : Obj) : There4 (a.alloc o) p := h.below ((Below.refl _ _).alloc (Nat.le_refl _) _)
theorem There4.new (a : World) (v0 v1 v2 v3 : Value) (t : TypeId) : There4 (a.alloc (.cells #[v0, v1, v2, v3] t)) a.heap.size := fun k hk => by
  have : k = 0 ∨ k = 1 ∨ k = 2 ∨ k = 3 := by omega
  rcases this with rfl | rfl | rfl | rfl
  · exact ⟨v0, by simp [World.cell?_alloc_new]⟩
  · exact ⟨v1, by simp [World.cell?_alloc_new]⟩
  · exact ⟨v2, by simp [World.cell?_alloc_new]⟩
  · exact ⟨v3, by simp [World.cell?_alloc_new]⟩
theorem There4.at {a : World} {p q : Nat} (h : There4 a p) (e : p = q) : There4 a q := e ▸ h
theorem There4.lt {a : World} {p : Nat} (h : There4 a p) : p < a.heap.size := by
  obtain ⟨u, hu⟩ := h 0 (by omega)
  exact World.block_lt_of_cell? _ _ hu
/-- four cells written -/
abbrev set4 (w : World) (p : Nat) (v0 v1 v2 v3 : Value) : World := (((w.setCell ⟨p, 0, none⟩ v0).setCell ⟨p, 1, none⟩ v1).setCell ⟨p, 2, none⟩ v2).setCell ⟨p, 3, none⟩ v3
theorem set4_at {w : World} {p : Nat} (h : There4 w p) (v0 v1 v2 v3 : Value) :
    (set4 w p v0 v1 v2 v3).cell? ⟨p, 0, none⟩ = some v0 ∧ (set4 w p v0 v1 v2 v3).cell? ⟨p, 1, none⟩ = some v1 ∧ (set4 w p v0 v1 v2 v3).cell? ⟨p, 2, none⟩ = some v2 ∧ (set4 w p v0 v1 v2 v3).cell? ⟨p, 3, none⟩ = some v3 := by
  obtain ⟨u0, h0⟩ := h 0 (by omega)
  obtain ⟨u1, h1⟩ := h 1 (by omega)
  obtain ⟨u2, h2⟩ := h 2 (by omega)
  obtain ⟨u3, h3⟩ := h 3 (by omega)
  refine ⟨?_, ?_, ?_, ?_⟩
  · rw [World.cell?_setCell_other _ _ _ _ (by simp), World.cell?_setCell_other _ _ _ _ (by simp), World.cell?_setCell_other _ _ _ _ (by simp)]
    exact World.cell?_setCell_same _ _ _ h0
  · rw [World.cell?_setCell_other _ _ _ _ (by simp), World.cell?_setCell_other _ _ _ _ (by simp)]
    refine World.cell?_setCell_same _ _ _ (u := u1) ?_
    rw [World.cell?_setCell_other _ _ _ _ (by simp)]; exact h1
  · rw [World.cell?_setCell_other _ _ _ _ (by simp)]
    refine World.cell?_setCell_same _ _ _ (u := u2) ?_
    rw [World.cell?_setCell_other _ _ _ _ (by simp), World.cell?_setCell_other _ _ _ _ (by simp)]; exact h2
  · refine World.cell?_setCell_same _ _ _ (u := u3) ?_
    rw [World.cell?_setCell_other _ _ _ _ (by simp), World.cell?_setCell_other _ _ _ _ (by simp), World.cell?_setCell_other _ _ _ _ (by simp)]; exact h3
theorem bset4 {w a : World} (h : Below w.heap.size w a) {p : Nat} (hp : w.heap.size ≤ p) (v0 v1 v2 v3 : Value) : Below w.heap.size w (set4 a p v0 v1 v2 v3) :=
  (((h.setCell (by simpa using hp) _).setCell (by simpa using hp) _).setCell (by simpa using hp) _).setCell (by simpa using hp) _
/-- a rectangle handed back out of its variable -/
theorem ret_rect {fn : Func} {a : Act} {w w1 : World} {p s : Nat} {r : Rc} {x0 y0 x1 y1 : Int} (hres : fn.results = #[.cell s 33]) (hs : a.tmps.getD s undef = .pointer (some ⟨p, 0, none⟩)) (hd : a.defers = [])
    (ht : There4 w1 p) (hp : w.heap.size ≤ p) (hb : Below w.heap.size w w1) (hr : Rc.mk x0 y0 x1 y1 = ⟨r.x0, r.y0, r.x1, r.y1⟩) :
    bodyPost Try.prog fn (RcPost r w) .ret a (set4 w1 p (.int .i64 x0) (.int .i64 y0) (.int .i64 x1) (.int .i64 y1)) := by
  obtain ⟨k0, k1, k2, k3⟩ := set4_at ht (.int .i64 x0) (.int .i64 y0) (.int .i64 x1) (.int .i64 y1)
  have hb' := bset4 hb hp (.int .i64 x0) (.int .i64 y0) (.int .i64 x1) (.int .i64 y1)
  obtain ⟨w9, e9⟩ : ∃ w9, w9 = set4 w1 p (.int .i64 x0) (.int .i64 y0) (.int .i64 x1) (.int .i64 y1) := ⟨_, rfl⟩
  rw [← e9] at k0 k1 k2 k3 hb' ⊢
  clear e9
  refine bodyPost_ret (v := .agg #[.int .i64 x0, .int .i64 y0, .int .i64 x1, .int .i64 y1]) ?_ hd ⟨ret_rc hr, hb'⟩
  rw [Array.getD_eq_getD_getElem?] at hs
  simp [results, hres, hs, go_sem, k0, k1, k2, k3]

set_option maxHeartbeats 2000000 in
theorem inter_any (a b c d a' b' c' d' : Int) (w : World) :
    Calls Try.prog 62 #[.agg #[.int .i64 a, .int .i64 b, .int .i64 c, .int .i64 d], .agg #[.int .i64 a', .int .i64 b', .int .i64 c', .int .i64 d']] w (RcPost (interR a b c d a' b' c' d') w) := by
  rcases hv : validB a b c d with _ | _
  · have hv' := Lib.hid hv
    go_enter Try.func62, Try.ntmps62
    go_wp2_with fail
    refine (valid_any _ _ _ _ _).mono ?_; rintro e w1 ⟨rfl, hb⟩; obtain ⟨hc, hf⟩ := bcell hb
    obtain ⟨z0, z1, z2, z3⟩ := sz3 hb
    go_wp2_with fail
    exact ret_rect Try.results62 rfl rfl (((There4.new _ _ _ _ _ _).at (by simp)).below hb) (by omega) (bthen (balloc (balloc (balloc (bref w) _) _) _) hb) (inter_u (.inl hv'.out))
  · rcases hu : validB a' b' c' d' with _ | _
    · have hv' := Lib.hid hv
      have hu' := Lib.hid hu
      go_enter Try.func62, Try.ntmps62
      go_wp2_with fail
      refine (valid_any _ _ _ _ _).mono ?_; rintro e w1 ⟨rfl, hb⟩; obtain ⟨hc, hf⟩ := bcell hb
      obtain ⟨z0, z1, z2, z3⟩ := sz3 hb
      go_wp2_with fail
      refine (valid_any _ _ _ _ _).mono ?_; rintro e w2 ⟨rfl, hb2⟩; obtain ⟨hc2, hf2⟩ := bcell hb2
      have y0 := bmore hb2 z0
      have y1 := bmore hb2 z1
      have y2 := bmore hb2 z2
      go_wp2_with fail
      exact ret_rect Try.results62 rfl rfl ((((There4.new _ _ _ _ _ _).at (by simp)).below hb).below hb2) (by omega) (bthen (bthen (balloc (balloc (balloc (bref w) _) _) _) hb) hb2) (inter_u (.inr hu'.out))
    · have hv' := Lib.hid hv
      have hu' := Lib.hid hu
      go_enter Try.func62, Try.ntmps62
      go_wp2_with fail
      refine (valid_any _ _ _ _ _).mono ?_; rintro e w1 ⟨rfl, hb⟩; obtain ⟨hc, hf⟩ := bcell hb
      obtain ⟨z0, z1, z2, z3⟩ := sz3 hb
      go_wp2_with fail
      refine (valid_any _ _ _ _ _).mono ?_; rintro e w2 ⟨rfl, hb2⟩; obtain ⟨hc2, hf2⟩ := bcell hb2
      have y0 := bmore hb2 z0
      have y1 := bmore hb2 z1
      have y2 := bmore hb2 z2
      go_wp2_with fail
      all_goals
        refine (valid_any _ _ _ _ _).mono ?_; rintro e w3 ⟨rfl, hb3⟩; obtain ⟨hc3, hf3⟩ := bcell hb3
        go_wp2_with fail
        all_goals first
          | exact ret_rect Try.results62 rfl rfl ((((((There4.new _ _ _ _ _ _).at (by simp)).below hb).below hb2).alloc _).below hb3) (by omega) (bthen (balloc (bthen (bthen (balloc (balloc (balloc (bref w) _) _) _) hb) hb2) _) hb3) (inter_t hv'.out hu'.out (by assumption) (by omega) (by omega) (by omega) (by omega))
          | exact ret_rect Try.results62 rfl rfl ((((((There4.new _ _ _ _ _ _).at (by simp)).below hb).below hb2).alloc _).below hb3) (by omega) (bthen (balloc (bthen (bthen (balloc (balloc (balloc (bref w) _) _) _) hb) hb2) _) hb3) (inter_t hv'.out hu'.out (notB hv'.out) (by omega) (by omega) (by omega) (by omega))
          | exact ret_rect Try.results62 rfl rfl ((((((There4.new _ _ _ _ _ _).at (by simp)).below hb).below hb2).alloc _).below hb3) (by omega) (bthen (balloc (bthen (bthen (balloc (balloc (balloc (bref w) _) _) _) hb) hb2) _) hb3) (inter_t hv'.out hu'.out (notB hu'.out) (by omega) (by omega) (by omega) (by omega))
          | exact ret_rect Try.results62 rfl rfl ((((((There4.new _ _ _ _ _ _).at (by simp)).below hb).below hb2).alloc _).below hb3) (by omega) (bthen (balloc (bthen (bthen (balloc (balloc (balloc (bref w) _) _) _) hb) hb2) _) hb3) (inter_f hv'.out hu'.out (by assumption) (by omega) (by omega) (by omega) (by omega))
set_option linter.unusedVariables false

theorem rinter_t {a b c d e f g h p q r s : Int} (hv : validB a b c d = true) (hu : validB e f g h = true) (h0 : p = max a e) (h1 : q = max b f) (h2 : r = min c g) (h3 : s = min d h) (hk : p < r ∧ q < s) : Rc.mk p q r s = ⟨(interR a b c d e f g h).x0, (interR a b c d e f g h).y0, (interR a b c d e f g h).x1, (interR a b c d e f g h).y1⟩ := by
  unfold interR
  rw [if_pos ⟨hv, hu, by omega, by omega⟩, h0, h1, h2, h3]
theorem rinter_f {a b c d e f g h p q r s : Int} (h0 : p = max a e) (h1 : q = max b f) (h2 : r = min c g) (h3 : s = min d h) (hk : ¬ (p < r ∧ q < s)) : Rc.mk 0 0 0 0 = ⟨(interR a b c d e f g h).x0, (interR a b c d e f g h).y0, (interR a b c d e f g h).x1, (interR a b c d e f g h).y1⟩ := by
  unfold interR
  rw [if_neg (fun hh => hk (by have := hh.2.2; omega))]
theorem hull_u {a b c d e f g h : Int} (hv : validB a b c d = false ∨ validB e f g h = false) : Rc.mk 0 0 0 0 = ⟨(hullR a b c d e f g h).x0, (hullR a b c d e f g h).y0, (hullR a b c d e f g h).x1, (hullR a b c d e f g h).y1⟩ := by
  unfold hullR
  rw [if_neg]
  rintro ⟨h1, h2⟩
  rcases hv with h | h <;> simp_all
theorem hull_a {a b c d e f g h : Int} (hv : validB a b c d = true) (hu : validB e f g h = true) (he : emptyB a b c d = true) : Rc.mk e f g h = ⟨(hullR a b c d e f g h).x0, (hullR a b c d e f g h).y0, (hullR a b c d e f g h).x1, (hullR a b c d e f g h).y1⟩ := by
  unfold hullR
  rw [if_pos ⟨hv, hu⟩, if_pos he]
theorem hull_b {a b c d e f g h : Int} (hv : validB a b c d = true) (hu : validB e f g h = true) (he : emptyB a b c d = false) (hf : emptyB e f g h = true) : Rc.mk a b c d = ⟨(hullR a b c d e f g h).x0, (hullR a b c d e f g h).y0, (hullR a b c d e f g h).x1, (hullR a b c d e f g h).y1⟩ := by
  unfold hullR
  rw [if_pos ⟨hv, hu⟩, if_neg (by simp [he]), if_pos hf]
theorem hull_k {a b c d e f g h p q r s : Int} (hv : validB a b c d = true) (hu : validB e f g h = true) (he : emptyB a b c d = false) (hf : emptyB e f g h = false) (h0 : p = min a e) (h1 : q = min b f) (h2 : r = max c g) (h3 : s = max d h) : Rc.mk p q r s = ⟨(hullR a b c d e f g h).x0, (hullR a b c d e f g h).y0, (hullR a b c d e f g h).x1, (hullR a b c d e f g h).y1⟩ := by
  unfold hullR
  rw [if_pos ⟨hv, hu⟩, if_neg (by simp [he]), if_neg (by simp [hf]), h0, h1, h2, h3]
/-- the four numbers of an outset are in their range -/
def sideB (l t r u : Int) : Bool := decide ((0 ≤ l ∧ l ≤ 1048576) ∧ (0 ≤ t ∧ t ≤ 1048576) ∧ (0 ≤ r ∧ r ≤ 1048576) ∧ (0 ≤ u ∧ u ≤ 1048576))
theorem sideB_t {l t r u : Int} : sideB l t r u = true ↔ ((0 ≤ l ∧ l ≤ 1048576) ∧ (0 ≤ t ∧ t ≤ 1048576) ∧ (0 ≤ r ∧ r ≤ 1048576) ∧ (0 ≤ u ∧ u ≤ 1048576)) := by simp [sideB]
theorem sideB_f {l t r u : Int} : sideB l t r u = false ↔ ¬ ((0 ≤ l ∧ l ≤ 1048576) ∧ (0 ≤ t ∧ t ≤ 1048576) ∧ (0 ≤ r ∧ r ≤ 1048576) ∧ (0 ≤ u ∧ u ≤ 1048576)) := by rw [← sideB_t]; simp
theorem out_z {a b c d l t r u : Int} (h : fullB a b c d = false ∨ sideB l t r u = false) : Rc.mk 0 0 0 0 = ⟨(outR a b c d l t r u).x0, (outR a b c d l t r u).y0, (outR a b c d l t r u).x1, (outR a b c d l t r u).y1⟩ := by
  unfold outR
  rw [if_neg]
  rintro ⟨h1, h2, h3, h4, h5, _⟩
  rcases h with h | h
  · simp_all
  · rw [sideB_f] at h; exact h ⟨h2, h3, h4, h5⟩
theorem out_t {a b c d l t r u : Int} (h : fullB a b c d = true) (hs : sideB l t r u = true) (hk : (!validB (a - l) (b - t) (c + r) (d + u)) = false) : Rc.mk (a - l) (b - t) (c + r) (d + u) = ⟨(outR a b c d l t r u).x0, (outR a b c d l t r u).y0, (outR a b c d l t r u).x1, (outR a b c d l t r u).y1⟩ := by
  rw [Bool.not_eq_false'] at hk
  obtain ⟨h2, h3, h4, h5⟩ := sideB_t.1 hs
  unfold outR
  rw [if_pos ⟨h, h2, h3, h4, h5, hk⟩]
theorem out_f {a b c d l t r u : Int} (hk : (!validB (a - l) (b - t) (c + r) (d + u)) = true) : Rc.mk 0 0 0 0 = ⟨(outR a b c d l t r u).x0, (outR a b c d l t r u).y0, (outR a b c d l t r u).x1, (outR a b c d l t r u).y1⟩ := by
  rw [Bool.not_eq_true'] at hk
  unfold outR
  rw [if_neg]
  rintro ⟨_, _, _, _, _, h6⟩
  simp_all
open Go.ChangeShapes Go.WideShapes Go.ChangeAt Go.RowKit
set_option linter.unusedVariables false
set_option linter.unusedSimpArgs false

/-- two rectangles lie in two blocks, and only new blocks have come since -/
abbrev InS (w : World) (p q : Nat) (a b c d a' b' c' d' : Int) (w' : World) : Prop :=
  Below w.heap.size w w' ∧ w'.cell? ⟨p, 0, none⟩ = some (.int .i64 a) ∧ w'.cell? ⟨p, 1, none⟩ = some (.int .i64 b) ∧ w'.cell? ⟨p, 2, none⟩ = some (.int .i64 c) ∧ w'.cell? ⟨p, 3, none⟩ = some (.int .i64 d) ∧
    w'.cell? ⟨q, 0, none⟩ = some (.int .i64 a') ∧ w'.cell? ⟨q, 1, none⟩ = some (.int .i64 b') ∧ w'.cell? ⟨q, 2, none⟩ = some (.int .i64 c') ∧ w'.cell? ⟨q, 3, none⟩ = some (.int .i64 d')
theorem inS_keep {w : World} {p q : Nat} {a b c d a' b' c' d' : Int} {w1 w2 : World} (hb : Below w1.heap.size w1 w2) (h : InS w p q a b c d a' b' c' d' w1) : InS w p q a b c d a' b' c' d' w2 := by
  obtain ⟨h0, h1, h2, h3, h4, h5, h6, h7, h8⟩ := h
  exact ⟨bthen h0 hb, bkeep hb h1, bkeep hb h2, bkeep hb h3, bkeep hb h4, bkeep hb h5, bkeep hb h6, bkeep hb h7, bkeep hb h8⟩
theorem inS_start (w : World) (a b c d a' b' c' d' : Int) (t t' : TypeId) :
    InS w w.heap.size (w.heap.size + 1) a b c d a' b' c' d' ((w.alloc (.cells #[.int .i64 a, .int .i64 b, .int .i64 c, .int .i64 d] t)).alloc (.cells #[.int .i64 a', .int .i64 b', .int .i64 c', .int .i64 d'] t')).drew := by
  refine ⟨(balloc (balloc (bref w) _) _).drew, ?_, ?_, ?_, ?_, ?_, ?_, ?_, ?_⟩ <;> go_cell
theorem valid_is {a b c d : Int} {v : Bool} (h : validB a b c d = v) (w : World) : Calls Try.prog 61 #[.agg #[.int .i64 a, .int .i64 b, .int .i64 c, .int .i64 d]] w (TestPost v w) := h ▸ valid_any a b c d w
/-- a rectangle that is known came back -/
theorem inter_is {a b c d a' b' c' d' p q r s : Int} (h : interR a b c d a' b' c' d' = ⟨p, q, r, s⟩) (w : World) : Calls Try.prog 62 #[.agg #[.int .i64 a, .int .i64 b, .int .i64 c, .int .i64 d], .agg #[.int .i64 a', .int .i64 b', .int .i64 c', .int .i64 d']] w
    fun e w' => e = .returned (.agg #[.int .i64 p, .int .i64 q, .int .i64 r, .int .i64 s]) ∧ Below w.heap.size w w' := by
  have := inter_any a b c d a' b' c' d' w
  unfold RcPost at this
  rw [h] at this
  exact this
theorem inside_u {a b c d a' b' c' d' : Int} (h : validB a b c d = false ∨ validB a' b' c' d' = false) : false = insideB a b c d a' b' c' d' := by
  rw [eq_comm, Bool.eq_false_iff]
  intro k
  rw [insideB_t] at k
  rcases h with h | h <;> simp_all
theorem inside_eq {a b c d a' b' c' d' p q r s : Int} (hv : validB a b c d = true) (hu : validB a' b' c' d' = true) (h : interR a b c d a' b' c' d' = ⟨p, q, r, s⟩) : insideB a b c d a' b' c' d' = decide (p = a ∧ q = b ∧ r = c ∧ s = d) := by
  have hv2 := validB_t.1 hv
  have hu2 := validB_t.1 hu
  rw [Bool.eq_iff_iff, insideB_t, decide_eq_true_eq]
  unfold interR at h
  split at h <;> rw [Rc.mk.injEq] at h
  · rename_i hk
    have := hk.2.2
    simp only [hv, hu, true_and]
    omega
  · rename_i hk
    have : ¬ (max a a' < min c c' ∧ max b b' < min d d') := fun hh => hk ⟨hv, hu, hh.1, hh.2⟩
    simp only [hv, hu, true_and]
    omega

set_option maxHeartbeats 4000000 in
theorem inside_any (a b c d a' b' c' d' : Int) (w : World) :
    Calls Try.prog 38 #[.agg #[.int .i64 a, .int .i64 b, .int .i64 c, .int .i64 d], .agg #[.int .i64 a', .int .i64 b', .int .i64 c', .int .i64 d']] w (TestPost (insideB a b c d a' b' c' d') w) := by
  rcases hv : validB a b c d with _ | _
  · have hv' := Lib.hid hv
    have hx := Lib.hid (inside_u (a := a) (b := b) (c := c) (d := d) (a' := a') (b' := b') (c' := c') (d' := d') (.inl hv))
    clear hv
    go_enter Try.func38, Try.ntmps38
    go_upto_region 1 with fail
    go_region_with (go_at_call 61; refine (valid_is hv'.out _).mono ?_; rintro e w1 ⟨rfl, hb⟩)
    all_goals
      go_wp2_with fail
      go_ret
      exact ⟨ret_bool hx.out, bthen (balloc (balloc (bref w) _) _).drew hb⟩
  · rcases hu : validB a' b' c' d' with _ | _
    · have hv' := Lib.hid hv
      have hu' := Lib.hid hu
      have hx := Lib.hid (inside_u (a := a) (b := b) (c := c) (d := d) (a' := a') (b' := b') (c' := c') (d' := d') (.inr hu))
      clear hv hu
      go_enter Try.func38, Try.ntmps38
      go_upto_region 1 with fail
      go_region_with (first
        | (go_at_call_of 61 (Value.agg #[.int .i64 a, .int .i64 b, .int .i64 c, .int .i64 d]); refine (valid_is hv'.out _).mono ?_; rintro e w1 ⟨rfl, hb⟩; obtain ⟨hc, hf⟩ := bcell hb; obtain ⟨z0, z1⟩ := sz2d hb)
        | (go_at_call_of 61 (Value.agg #[.int .i64 a', .int .i64 b', .int .i64 c', .int .i64 d']); refine (valid_is hu'.out _).mono ?_; rintro e w2 ⟨rfl, hb2⟩))
      all_goals
        go_wp2_with fail
        go_ret
        exact ⟨ret_bool hx.out, bthen (bthen (balloc (balloc (bref w) _) _).drew hb) hb2⟩
    · obtain ⟨p, q, r, s, hR⟩ : ∃ p q r s, interR a b c d a' b' c' d' = ⟨p, q, r, s⟩ := ⟨_, _, _, _, rfl⟩
      have hx := Lib.hid (inside_eq hv hu hR)
      have hv' := Lib.hid hv
      have hu' := Lib.hid hu
      have hR' := Lib.hid hR
      clear hv hu hR
      by_cases e0 : p = a
      · subst e0
        by_cases e1 : q = b
        · subst e1
          by_cases e2 : r = c
          · subst e2
            by_cases e3 : s = d
            · subst e3
              go_enter Try.func38, Try.ntmps38
              go_upto_region 1 with fail
              have hS := inS_start w p q r s a' b' c' d' 33 33
              go_region_held3 (fun w' => InS w w.heap.size (w.heap.size + 1) p q r s a' b' c' d' w') ((first | exact hS | exact inS_keep hb ‹_›))
                (first
                  | (go_at_call_of 61 (Value.agg #[.int .i64 p, .int .i64 q, .int .i64 r, .int .i64 s]); refine (valid_is hv'.out _).mono ?_; rintro e w1 ⟨rfl, hb⟩)
                  | (go_at_call 61; refine (valid_is hu'.out _).mono ?_; rintro e w1 ⟨rfl, hb⟩)
                  | (go_at_call 62; refine (inter_is hR'.out _).mono ?_; rintro e w1 ⟨rfl, hb⟩))
              all_goals
                go_wp2_with fail
                go_ret
                refine ⟨ret_bool ?_, ?_⟩
                · rw [hx.out]; simp
                · exact (‹InS w w.heap.size (w.heap.size + 1) p q r s a' b' c' d' w1›).1
            · go_enter Try.func38, Try.ntmps38
              go_upto_region 1 with fail
              have hS := inS_start w p q r d a' b' c' d' 33 33
              go_region_held3 (fun w' => InS w w.heap.size (w.heap.size + 1) p q r d a' b' c' d' w') ((first | exact hS | exact inS_keep hb ‹_›))
                (first
                  | (go_at_call_of 61 (Value.agg #[.int .i64 p, .int .i64 q, .int .i64 r, .int .i64 d]); refine (valid_is hv'.out _).mono ?_; rintro e w1 ⟨rfl, hb⟩)
                  | (go_at_call 61; refine (valid_is hu'.out _).mono ?_; rintro e w1 ⟨rfl, hb⟩)
                  | (go_at_call 62; refine (inter_is hR'.out _).mono ?_; rintro e w1 ⟨rfl, hb⟩))
              all_goals
                go_wp2_with fail
                go_ret
                refine ⟨ret_bool ?_, ?_⟩
                · rw [hx.out]; simp [e3]
                · exact (‹InS w w.heap.size (w.heap.size + 1) p q r d a' b' c' d' w1›).1
          · go_enter Try.func38, Try.ntmps38
            go_upto_region 1 with fail
            have hS := inS_start w p q c d a' b' c' d' 33 33
            go_region_held3 (fun w' => InS w w.heap.size (w.heap.size + 1) p q c d a' b' c' d' w') ((first | exact hS | exact inS_keep hb ‹_›))
              (first
                | (go_at_call_of 61 (Value.agg #[.int .i64 p, .int .i64 q, .int .i64 c, .int .i64 d]); refine (valid_is hv'.out _).mono ?_; rintro e w1 ⟨rfl, hb⟩)
                | (go_at_call 61; refine (valid_is hu'.out _).mono ?_; rintro e w1 ⟨rfl, hb⟩)
                | (go_at_call 62; refine (inter_is hR'.out _).mono ?_; rintro e w1 ⟨rfl, hb⟩))
            all_goals
              go_wp2_with fail
              go_ret
              refine ⟨ret_bool ?_, ?_⟩
              · rw [hx.out]; simp [e2]
              · exact (‹InS w w.heap.size (w.heap.size + 1) p q c d a' b' c' d' w1›).1
        · go_enter Try.func38, Try.ntmps38
          go_upto_region 1 with fail
          have hS := inS_start w p b c d a' b' c' d' 33 33
          go_region_held3 (fun w' => InS w w.heap.size (w.heap.size + 1) p b c d a' b' c' d' w') ((first | exact hS | exact inS_keep hb ‹_›))
            (first
              | (go_at_call_of 61 (Value.agg #[.int .i64 p, .int .i64 b, .int .i64 c, .int .i64 d]); refine (valid_is hv'.out _).mono ?_; rintro e w1 ⟨rfl, hb⟩)
              | (go_at_call 61; refine (valid_is hu'.out _).mono ?_; rintro e w1 ⟨rfl, hb⟩)
              | (go_at_call 62; refine (inter_is hR'.out _).mono ?_; rintro e w1 ⟨rfl, hb⟩))
          all_goals
            go_wp2_with fail
            go_ret
            refine ⟨ret_bool ?_, ?_⟩
            · rw [hx.out]; simp [e1]
            · exact (‹InS w w.heap.size (w.heap.size + 1) p b c d a' b' c' d' w1›).1
      · go_enter Try.func38, Try.ntmps38
        go_upto_region 1 with fail
        have hS := inS_start w a b c d a' b' c' d' 33 33
        go_region_held3 (fun w' => InS w w.heap.size (w.heap.size + 1) a b c d a' b' c' d' w') ((first | exact hS | exact inS_keep hb ‹_›))
          (first
            | (go_at_call_of 61 (Value.agg #[.int .i64 a, .int .i64 b, .int .i64 c, .int .i64 d]); refine (valid_is hv'.out _).mono ?_; rintro e w1 ⟨rfl, hb⟩)
            | (go_at_call 61; refine (valid_is hu'.out _).mono ?_; rintro e w1 ⟨rfl, hb⟩)
            | (go_at_call 62; refine (inter_is hR'.out _).mono ?_; rintro e w1 ⟨rfl, hb⟩))
        all_goals
          go_wp2_with fail
          go_ret
          refine ⟨ret_bool ?_, ?_⟩
          · rw [hx.out]; simp [e0]
          · exact (‹InS w w.heap.size (w.heap.size + 1) a b c d a' b' c' d' w1›).1
end Go.Proofs.Ytibmoibhbgbfoaa
