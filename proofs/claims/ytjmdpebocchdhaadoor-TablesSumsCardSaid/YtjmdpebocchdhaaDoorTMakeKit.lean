/- What TablesMake's walk wants: the three lists of numbers as cells, what a round's regions read, a round's three indices. -/
import Derived.Test.YtjmdpebocchdhaaDoorTSane
import Derived.Test.YtjmdpebocchdhaaDoorTSame
namespace Go.Proofs.YtjmdpebocchdhaaDoor
open Go.ChangeShapes Go.WideShapes Go.ChangeAt Go.RowKit
set_option linter.unusedVariables false
set_option linter.unusedSimpArgs false

/-- the three numbers of a round -/
def ThreeAt (b1 b2 b3 r q t : Nat) (X Y Z : Int) (w : World) : Prop := w.cell? ⟨b1, r, none⟩ = some (.int .i64 X) ∧ w.cell? ⟨b2, q, none⟩ = some (.int .i64 Y) ∧ w.cell? ⟨b3, t, none⟩ = some (.int .i64 Z)
theorem ThreeAt.below {b1 b2 b3 r q t : Nat} {X Y Z : Int} {w w' : World} (h : ThreeAt b1 b2 b3 r q t X Y Z w) (hb : Below w.heap.size w w') : ThreeAt b1 b2 b3 r q t X Y Z w' := ⟨bkeep hb h.1, bkeep hb h.2.1, bkeep hb h.2.2⟩
theorem quo_names {k : Nat} (hk : k < 9) : ∃ r q t : Nat, k % 3 = r ∧ k / 3 = q ∧ (k + q) % 3 = t ∧ r < 3 ∧ q < 3 ∧ t < 3 ∧ wrap64 ((k : Int).tmod 3) = r ∧ wrap64 ((k : Int).tdiv 3) = q ∧ wrap64 ((k : Int) + q) = ((k + q : Nat) : Int) ∧ wrap64 (((k + q : Nat) : Int).tmod 3) = t := by
  refine ⟨k % 3, k / 3, (k + k / 3) % 3, rfl, rfl, rfl, by omega, by omega, by omega, ?_, ?_, ?_, ?_⟩
  · rw [Int.tmod_eq_emod_of_nonneg (by omega)]; unfold wrap64; omega
  · rw [Int.tdiv_eq_ediv_of_nonneg (by omega)]; unfold wrap64; omega
  · unfold wrap64; omega
  · rw [Int.tmod_eq_emod_of_nonneg (by omega)]; unfold wrap64; omega
theorem quo_bare {k : Nat} (hk : k < 9) : ∃ r q t : Nat, k % 3 = r ∧ k / 3 = q ∧ (k + q) % 3 = t ∧ r < 3 ∧ q < 3 ∧ t < 3 ∧ (k : Int).tmod 3 = r ∧ (k : Int).tdiv 3 = q ∧ ((k : Int) + q).tmod 3 = t := by
  refine ⟨k % 3, k / 3, (k + k / 3) % 3, rfl, rfl, rfl, by omega, by omega, by omega, ?_, ?_, ?_⟩
  · rw [Int.tmod_eq_emod_of_nonneg (by omega)]; omega
  · rw [Int.tdiv_eq_ediv_of_nonneg (by omega)]; omega
  · rw [Int.tmod_eq_emod_of_nonneg (by omega)]; omega
theorem three_new (w : World) (x y z : Int) : ∀ k, k < 3 → (w.alloc (.cells #[.int .i64 x, .int .i64 y, .int .i64 z] 3)).cell? ⟨w.heap.size, k, none⟩ = some (.int .i64 ([x, y, z].getD k 0)) := by
  intro k hk
  rw [World.cell?_alloc_new]
  rcases (show k = 0 ∨ k = 1 ∨ k = 2 by omega) with rfl | rfl | rfl <;> rfl
/-- the three lists of numbers, and only new blocks -/
def ListsAt (w : World) (x1 x2 x3 y1 y2 y3 z1 z2 z3 : Int) (wr : World) : Prop := Below w.heap.size w wr ∧ (∀ k, k < 3 → wr.cell? ⟨w.heap.size, k, none⟩ = some (.int .i64 ([x1, x2, x3].getD k 0))) ∧ (∀ k, k < 3 → wr.cell? ⟨w.heap.size + 1, k, none⟩ = some (.int .i64 ([y1, y2, y3].getD k 0))) ∧ (∀ k, k < 3 → wr.cell? ⟨w.heap.size + 1 + 1, k, none⟩ = some (.int .i64 ([z1, z2, z3].getD k 0)))
theorem ListsAt.below {w : World} {x1 x2 x3 y1 y2 y3 z1 z2 z3 : Int} {wr w' : World} (h : ListsAt w x1 x2 x3 y1 y2 y3 z1 z2 z3 wr) (hb : Below wr.heap.size wr w') : ListsAt w x1 x2 x3 y1 y2 y3 z1 z2 z3 w' :=
  ⟨bthen h.1 hb, fun k hk => bkeep hb (h.2.1 k hk), fun k hk => bkeep hb (h.2.2.1 k hk), fun k hk => bkeep hb (h.2.2.2 k hk)⟩
theorem lists_new (w : World) (x1 x2 x3 y1 y2 y3 z1 z2 z3 : Int) : ListsAt w x1 x2 x3 y1 y2 y3 z1 z2 z3 (((w.alloc (.cells #[.int .i64 x1, .int .i64 x2, .int .i64 x3] 3)).alloc (.cells #[.int .i64 y1, .int .i64 y2, .int .i64 y3] 3)).alloc (.cells #[.int .i64 z1, .int .i64 z2, .int .i64 z3] 3)) := by
  have hA := three_new w x1 x2 x3
  have hbA := balloc (bref w) (.cells #[.int .i64 x1, .int .i64 x2, .int .i64 x3] 3)
  obtain ⟨wA, eA⟩ : ∃ wA, w.alloc (.cells #[.int .i64 x1, .int .i64 x2, .int .i64 x3] 3) = wA := ⟨_, rfl⟩
  have hs1 : wA.heap.size = w.heap.size + 1 := by rw [← eA]; simp
  rw [eA] at hA hbA ⊢
  have hB := three_new wA y1 y2 y3
  have hbB := balloc (bref wA) (.cells #[.int .i64 y1, .int .i64 y2, .int .i64 y3] 3)
  obtain ⟨wB, eB⟩ : ∃ wB, wA.alloc (.cells #[.int .i64 y1, .int .i64 y2, .int .i64 y3] 3) = wB := ⟨_, rfl⟩
  have hs2 : wB.heap.size = w.heap.size + 1 + 1 := by rw [← eB, ← hs1]; simp
  rw [eB] at hB hbB ⊢
  have hC := three_new wB z1 z2 z3
  have hbC := balloc (bref wB) (.cells #[.int .i64 z1, .int .i64 z2, .int .i64 z3] 3)
  rw [hs2] at hC
  rw [hs1] at hB
  exact ⟨bthen (bthen hbA hbB) hbC, fun k hk => bkeep hbC (bkeep hbB (hA k hk)), fun k hk => bkeep hbC (hB k hk), hC⟩
/-- what a round's region reads, and all the rest -/
abbrev RdS (P : World → Prop) (b1 b2 b3 r q t : Nat) (X Y Z : Int) (w : World) : Prop := Hid (P w) ∧ w.cell? ⟨b1, r, none⟩ = some (.int .i64 X) ∧ w.cell? ⟨b2, q, none⟩ = some (.int .i64 Y) ∧ w.cell? ⟨b3, t, none⟩ = some (.int .i64 Z)
/-- kept by whatever only makes blocks -/
def Stays (P : World → Prop) : Prop := ∀ w w', P w → Below w.heap.size w w' → P w'
theorem RdS.below {P : World → Prop} (hP : Stays P) {b1 b2 b3 r q t : Nat} {X Y Z : Int} {w w' : World} (h : RdS P b1 b2 b3 r q t X Y Z w) (hb : Below w.heap.size w w') : RdS P b1 b2 b3 r q t X Y Z w' :=
  ⟨Lib.hid (hP _ _ h.1.out hb), bkeep hb h.2.1, bkeep hb h.2.2.1, bkeep hb h.2.2.2⟩
/-- few taps, with few weights each -/
def SmallT (T : List Tp) : Prop := T.length ≤ 128 ∧ ∀ t ∈ T, t.L.length ≤ 8
theorem errV_small : ∀ {T : List Tp}, errV T = 0 → ∀ t ∈ T, t.L.length ≤ 8
  | [], _, t, ht => by simp at ht
  | u :: r, h, t, ht => by
    unfold errV at h
    by_cases g : tapE u = 0
    · rw [if_pos g] at h
      rcases List.mem_cons.1 ht with rfl | ht
      · unfold tapE at g
        by_cases g2 : t.L.length = 0 ∨ 8 < t.L.length
        · rw [if_pos g2] at g; omega
        · omega
      · exact errV_small h t ht
    · rw [if_neg g] at h; exact absurd h g
theorem valid_small {T : List Tp} {n : Int} (h : validC T n = 0) : SmallT T := by
  unfold validC at h
  by_cases g : sideT n = false ∨ sideT T.length = false
  · rw [if_pos g] at h; omega
  · rw [if_neg g] at h
    have g2 : sideT T.length = true := by
      cases e : sideT T.length
      · exact absurd (.inr e) g
      · rfl
    have := sideT_t.1 g2
    exact ⟨by omega, errV_small h⟩
theorem small_nil : SmallT [] := ⟨by simp, fun t ht => by simp at ht⟩
theorem makeC_zero {n m s : Int} (h : makeC n m s = 0) : (1 ≤ n ∧ n ≤ 128) ∧ (1 ≤ m ∧ m ≤ 128) ∧ 0 ≤ s ∧ s ≤ 14 := by
  rcases make_cases n m s with ⟨h1, hc⟩ | ⟨h1, h2, hc⟩ | ⟨h1, h2, h3, hc⟩ | ⟨h1, h2, h3, hc⟩ | ⟨h1, h2, h3, hc⟩
  all_goals (first | (rw [hc] at h; omega) | (exact ⟨sideT_t.1 h1, sideT_t.1 h2, by omega, by omega⟩))
theorem lin_small (n m s : Int) : SmallT (linT n m s) := by
  unfold linT
  by_cases h : makeC n m s = 0
  · rw [if_pos h]
    obtain ⟨h1, h2, h3⟩ := makeC_zero h
    exact valid_small (lin_valid h1 h2 h3)
  · rw [if_neg h]; exact small_nil
theorem box_small (n m s : Int) : SmallT (boxT n m s) := by
  unfold boxT
  by_cases h : boxC n m s = 0
  · rw [if_pos h]
    unfold boxC at h
    by_cases g : makeC n m s ≠ 0
    · rw [if_pos g] at h; exact absurd h g
    · rw [if_neg g] at h
      have g' : makeC n m s = 0 := by simpa using g
      obtain ⟨h1, h2, h3⟩ := makeC_zero g'
      by_cases g3 : boxOk n m m.toNat = true
      · exact valid_small (box_valid h1 h2 h3 g3)
      · rw [if_neg g3] at h; omega
  · rw [if_neg h]; exact small_nil
/-- two tables that say the same -/
theorem tsame_true {T : List Tp} {V U : List Tv} {v u : Value} {b1 b2 : Nat} {w : World} (hV : V.map Tv.tp = T) (hU : U.map Tv.tp = T) (hS : SmallT T) (h1 : OwnT b1 w v V) (h2 : OwnT b2 w u U) :
    Calls Tryd.prog 21 #[v, u] w fun e w' => e = .returned (.bool true) ∧ Below w.heap.size w w' := by
  obtain ⟨a, ca, rfl, ha⟩ := h1.taps
  obtain ⟨b, cb, rfl, hb⟩ := h2.taps
  have hl : V.length = T.length := by rw [← hV]; simp
  refine (rtsame_any V U a b ca cb w ha hb (by have := hS.1; omega) (fun k hk => ?_)).mono fun e w' h => ?_
  · have : (V.getD k tv0).tp ∈ T := by
      rw [← hV, List.getD_eq_getElem?_getD, List.getElem?_eq_getElem hk]
      exact List.mem_map.2 ⟨_, List.getElem_mem _, rfl⟩
    have := hS.2 _ this
    have e : (V.getD k tv0).tp.L = (V.getD k tv0).L := rfl
    rw [e] at this
    omega
  · rw [hV, hU] at h
    simpa [TestPost] using h
end Go.Proofs.YtjmdpebocchdhaaDoor
