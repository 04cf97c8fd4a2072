/- The rectangle of a tile as contracts, of the program and of its reference: what each returns; the world gets new blocks at most. -/
import Derived.Test.YtpbapamoihkaoaaGCount
import Derived.Test.YtpbapamoihkaoaaRRInter
import Derived.Lib.MinMax
import Derived.Deep.DeepMust
namespace Go.Proofs.Ytpbapamoihkaoaa
open Go.ChangeShapes Go.WideShapes Go.ChangeAt Go.RowKit
set_option linter.unusedVariables false
set_option linter.unusedSimpArgs false

/-- a rectangle and a test came back, and only new blocks came -/
def TilePost (b : Bool) (r : Rc) (w : World) (e : Ending) (w' : World) : Prop := e = .returned (.tuple #[.agg #[.int .i64 r.x0, .int .i64 r.y0, .int .i64 r.x1, .int .i64 r.y1], .bool b]) ∧ Below w.heap.size w w'
theorem count_is {w h t u C R : Int} (hC : colN w h t u = C) (hR : rowN w h t u = R) (w0 : World) : Calls Try.prog 9 #[.int .i64 w, .int .i64 h, .int .i64 t, .int .i64 u] w0 fun e w' => e = .returned (.tuple #[.int .i64 C, .int .i64 R]) ∧ w0 = w' := by
  have := count_any w h t u w0
  unfold CountPost at this
  rw [hC, hR] at this; exact this
theorem rcount_is {w h t u C R : Int} (hC : colN w h t u = C) (hR : rowN w h t u = R) (w0 : World) : Calls Try.prog 26 #[.int .i64 w, .int .i64 h, .int .i64 t, .int .i64 u] w0 fun e w' => e = .returned (.tuple #[.int .i64 C, .int .i64 R]) ∧ w0 = w' := by
  have := rcount_any w h t u w0
  unfold CountPost at this
  rw [hC, hR] at this; exact this
theorem inter_is {a b c d a' b' c' d' p q r s : Int} (h : interR a b c d a' b' c' d' = ⟨p, q, r, s⟩) (w : World) : Calls Try.prog 32 #[.agg #[.int .i64 a, .int .i64 b, .int .i64 c, .int .i64 d], .agg #[.int .i64 a', .int .i64 b', .int .i64 c', .int .i64 d']] w
    fun e w' => e = .returned (.agg #[.int .i64 p, .int .i64 q, .int .i64 r, .int .i64 s]) ∧ Below w.heap.size w w' := by
  have := inter_any a b c d a' b' c' d' w
  unfold RcPost at this
  rw [h] at this; exact this
theorem rinter_is {a b c d a' b' c' d' p q r s : Int} (h : interR a b c d a' b' c' d' = ⟨p, q, r, s⟩) (w : World) : Calls Try.prog 21 #[.agg #[.int .i64 a, .int .i64 b, .int .i64 c, .int .i64 d], .agg #[.int .i64 a', .int .i64 b', .int .i64 c', .int .i64 d']] w
    fun e w' => e = .returned (.agg #[.int .i64 p, .int .i64 q, .int .i64 r, .int .i64 s]) ∧ Below w.heap.size w w' := by
  have := rinter_any a b c d a' b' c' d' w
  unfold RcPost at this
  rw [h] at this; exact this
/-- what the walk asks of a tile that is there: its column, its row and its rectangle's start, each under a name -/
theorem names {w h t u i : Int} (h0 : tileB w h t u i = true) :
    ∃ C R P M D X Y : Int, colN w h t u = C ∧ rowN w h t u = R ∧ C * R = P ∧ 0 ≤ P ∧ P ≤ 16384 ∧ i.tmod C = M ∧ i.tdiv C = D ∧ M * t = X ∧ D * u = Y ∧ (0 ≤ i ∧ i < P) ∧ ¬ C = 0 ∧ (0 ≤ M ∧ M ≤ 128) ∧ (0 ≤ D ∧ D ≤ 128) ∧ (0 ≤ X ∧ X < w) ∧ (0 ≤ Y ∧ Y < h) ∧ (1 ≤ w ∧ w ≤ 128) ∧ (1 ≤ h ∧ h ≤ 128) ∧ (1 ≤ t ∧ t ≤ 64) ∧ (1 ≤ u ∧ u ≤ 64) ∧
      interR X Y (X + t) (Y + u) 0 0 w h = tileR w h t u i ∧ tileR w h t u i = ⟨X, Y, min (X + t) w, min (Y + u) h⟩ := by
  have hf := tile_fine h0
  have hb := fineB_t.1 hf
  have hi := tileB_t.1 h0
  have hp := place h0
  have hc := counts hf
  have hr := cr_bd w h t u
  have t1 : i.tmod (colN w h t u) = i % colN w h t u := Int.tmod_eq_emod_of_nonneg hi.1
  have t2 : i.tdiv (colN w h t u) = i / colN w h t u := Int.tdiv_eq_ediv_of_nonneg hi.1
  refine ⟨colN w h t u, rowN w h t u, _, _, _, _, _, rfl, rfl, rfl, hr.1, hr.2, t1, t2, rfl, rfl, hi, by omega, by omega, by omega, by omega, by omega, by omega, by omega, by omega, by omega, tile_inter h0, tile_is h0⟩
theorem There4.drewN {a : World} {p : Nat} (h : There4 a p) (n : Nat) : There4 (a.drewN n) p := h
/-- a rectangle handed back out of its variable, with a test beside it -/
theorem ret_tile {fn : Func} {a : Act} {w w1 : World} {p s s2 : Nat} {v : Bool} {r : Rc} {x0 y0 x1 y1 : Int} (hres : fn.results = #[.cell s 31, .tmp s2]) (hs : a.tmps.getD s undef = .pointer (some ⟨p, 0, none⟩)) (hs2 : a.tmps.getD s2 undef = .bool v) (hd : a.defers = [])
    (ht : There4 w1 p) (hp : w.heap.size ≤ p) (hb : Below w.heap.size w w1) (hr : Rc.mk x0 y0 x1 y1 = ⟨r.x0, r.y0, r.x1, r.y1⟩) :
    bodyPost Try.prog fn (TilePost v r w) .ret a (set4 w1 p (.int .i64 x0) (.int .i64 y0) (.int .i64 x1) (.int .i64 y1)) := by
  obtain ⟨k0, k1, k2, k3⟩ := set4_at ht (.int .i64 x0) (.int .i64 y0) (.int .i64 x1) (.int .i64 y1)
  have hb' := bset4 hb hp (.int .i64 x0) (.int .i64 y0) (.int .i64 x1) (.int .i64 y1)
  obtain ⟨w9, e9⟩ : ∃ w9, w9 = set4 w1 p (.int .i64 x0) (.int .i64 y0) (.int .i64 x1) (.int .i64 y1) := ⟨_, rfl⟩
  rw [← e9] at k0 k1 k2 k3 hb' ⊢
  clear e9
  refine bodyPost_ret (v := .tuple #[.agg #[.int .i64 x0, .int .i64 y0, .int .i64 x1, .int .i64 y1], .bool v]) ?_ hd ⟨?_, hb'⟩
  · rw [Array.getD_eq_getD_getElem?] at hs hs2
    simp [results, hres, hs, hs2, go_sem, k0, k1, k2, k3]
  · simp only [Rc.mk.injEq] at hr; obtain ⟨rfl, rfl, rfl, rfl⟩ := hr; rfl
set_option maxHeartbeats 1000000 in
theorem gtile_any (w h t u i : Int) (w0 : World) : Calls Try.prog 15 #[.int .i64 w, .int .i64 h, .int .i64 t, .int .i64 u, .int .i64 i] w0 (TilePost (tileB w h t u i) (tileR w h t u i) w0) := by
  rcases hB : tileB w h t u i with _ | _
  · rw [tile_no hB]
    obtain ⟨C, eC⟩ : ∃ C, colN w h t u = C := ⟨_, rfl⟩
    obtain ⟨R, eR⟩ : ∃ R, rowN w h t u = R := ⟨_, rfl⟩
    have hcr := cr_bd w h t u
    have hi := tileB_f.1 hB
    rw [eC, eR] at hcr hi
    obtain ⟨P, eP⟩ : ∃ P, C * R = P := ⟨_, rfl⟩
    rw [eP] at hcr hi
    have h' : i < 0 ∨ (0 ≤ i ∧ P ≤ i) := by omega
    have HC := Lib.hid eC
    have HR := Lib.hid eR
    clear eC eR hi hB
    go_enter Try.func15, Try.ntmps15
    go_wp2_with fail
    refine (count_is HC.out HR.out _).mono ?_; rintro e w' ⟨rfl, rfl⟩
    rcases h' with h' | h'
    all_goals
      go_wp2_with fail
      go_returns
      exact ⟨rfl, by go_grown⟩
  · obtain ⟨C, R, P, M, D, X, Y, eC, eR, eP, p0, p1, t1, t2, eX, eY, hi, hz, hM, hD, hX, hY, bw, bh, bt, bu, hI, hT⟩ := names hB
    obtain ⟨a, b, c, d, eT⟩ : ∃ a b c d, tileR w h t u i = ⟨a, b, c, d⟩ := ⟨_, _, _, _, rfl⟩
    rw [eT] at hI ⊢
    have t3 : IntKind.i64.wrap M = M := IntWalk.i64_in _ (by omega)
    have t4 : IntKind.i64.wrap D = D := IntWalk.i64_in _ (by omega)
    have t5 : IntKind.i64.wrap X = X := IntWalk.i64_in _ (by omega)
    have t6 : IntKind.i64.wrap Y = Y := IntWalk.i64_in _ (by omega)
    have HC := Lib.hid eC
    have HR := Lib.hid eR
    have HI := Lib.hid hI
    clear eC eR hT eT hI hB
    go_enter Try.func15, Try.ntmps15
    go_wp2_with fail
    refine (count_is HC.out HR.out _).mono ?_; rintro e w' ⟨rfl, rfl⟩
    go_wp2_with fail
    go_quiet (fail)
    clear t1 t2 t3 t4 t5 t6 eX eY eP hz
    go_wp2_with fail
    refine (whole_any _ _ _).mono ?_; rintro e w1 ⟨rfl, hb⟩; obtain ⟨hc, hf⟩ := bcell hb
    have hs := hb.size
    have z1 : w0.heap.size < w1.heap.size := by simp at hs; omega
    clear hs
    go_wp2_with fail
    refine (inter_is HI.out _).mono ?_; rintro e w2 ⟨rfl, hb2⟩; obtain ⟨hc2, hf2⟩ := bcell hb2
    go_wp2_with fail
    exact ret_tile Try.results15 rfl rfl rfl (((There4.drewN (There4.new _ _ _ _ _ _) _).below hb).below hb2) (by omega) (bthen (bthen (bdrewN (balloc (bref w0) _) _) hb) hb2) rfl
set_option maxHeartbeats 1000000 in
theorem rtile_any (w h t u i : Int) (w0 : World) : Calls Try.prog 27 #[.int .i64 w, .int .i64 h, .int .i64 t, .int .i64 u, .int .i64 i] w0 (TilePost (tileB w h t u i) (tileR w h t u i) w0) := by
  rcases hB : tileB w h t u i with _ | _
  · rw [tile_no hB]
    obtain ⟨C, eC⟩ : ∃ C, colN w h t u = C := ⟨_, rfl⟩
    obtain ⟨R, eR⟩ : ∃ R, rowN w h t u = R := ⟨_, rfl⟩
    have hcr := cr_bd w h t u
    have hi := tileB_f.1 hB
    rw [eC, eR] at hcr hi
    obtain ⟨P, eP⟩ : ∃ P, C * R = P := ⟨_, rfl⟩
    rw [eP] at hcr hi
    have h' : i < 0 ∨ (0 ≤ i ∧ P ≤ i) := by omega
    have HC := Lib.hid eC
    have HR := Lib.hid eR
    clear eC eR hi hB
    go_enter Try.func27, Try.ntmps27
    go_wp2_with fail
    refine (rcount_is HC.out HR.out _).mono ?_; rintro e w' ⟨rfl, rfl⟩
    rcases h' with h' | h'
    all_goals
      go_wp2_with fail
      go_returns
      exact ⟨rfl, by go_grown⟩
  · obtain ⟨C, R, P, M, D, X, Y, eC, eR, eP, p0, p1, t1, t2, eX, eY, hi, hz, hM, hD, hX, hY, bw, bh, bt, bu, hI, hT⟩ := names hB
    rw [hT]
    have t3 : IntKind.i64.wrap M = M := IntWalk.i64_in _ (by omega)
    have t4 : IntKind.i64.wrap D = D := IntWalk.i64_in _ (by omega)
    have t5 : IntKind.i64.wrap X = X := IntWalk.i64_in _ (by omega)
    have t6 : IntKind.i64.wrap Y = Y := IntWalk.i64_in _ (by omega)
    have HC := Lib.hid eC
    have HR := Lib.hid eR
    clear eC eR hT hI hB
    go_enter Try.func27, Try.ntmps27
    go_wp2_with fail
    refine (rcount_is HC.out HR.out _).mono ?_; rintro e w' ⟨rfl, rfl⟩
    go_wp2_with fail
    go_quiet (fail)
    clear t1 t2 t3 t4 t5 t6 eX eY eP hz
    go_wp2_with fail
    all_goals
      exact ret_tile Try.results27 rfl rfl rfl (There4.drewN (There4.new _ _ _ _ _ _) _) (Nat.le_refl _) (bdrewN (balloc (bref w0) _) _) (by show Rc.mk _ _ _ _ = Rc.mk X Y (min (X + t) w) (min (Y + u) h); rw [Rc.mk.injEq]; omega)
end Go.Proofs.Ytpbapamoihkaoaa
