/- The pixels of a plane, also outside of it, as contracts of the reference. The contract of the reference's At: the pixel of a valid plane at any place, by a valid edge; else 0. -/
import Derived.Test.YtibmoibhbgbfoaaPPlain
import Derived.Test.YtibmoibhbgbfoaaBPlain
namespace Go.Proofs.Ytibmoibhbgbfoaa
open Go.ChangeShapes Go.WideShapes Go.ChangeAt Go.RowKit
set_option linter.unusedVariables false
set_option linter.unusedSimpArgs false

theorem rindex_is' {i n p k : Int} {v : Bool} (w : World) (i0 : -9223372036854775808 ≤ i) (i1 : i ≤ 9223372036854775807) (h1 : idxN i n p = k) (h2 : idxB i n p = v) :
    Calls Try.prog 66 #[.int .i64 i, .int .i64 n, .int .i64 p] w fun e w' => e = .returned (.tuple #[.int .i64 k, .bool v]) ∧ w = w' := by
  rw [← h1, ← h2]; exact rindex_any i n p w i0 i1
def pixO (W H q x y : Int) : Option Int := match idxO x W q, idxO y H q with
  | some i, some k => some (k * W + i)
  | _, _ => none
def pixN (W H : Int) (L : List Int) (q f x y : Int) : Int := match pixO W H q x y with
  | some j => L.getD j.toNat 0
  | none => f
def atN (W H M : Int) (L : List Int) (q f x y : Int) : Int := if planeB W H M L = true ∧ edgeB q f M = true then pixN W H L q f x y else 0
theorem place_bd {W H k i : Int} (k0 : 0 ≤ k) (k1 : k < H) (i0 : 0 ≤ i) (i1 : i < W) : 0 ≤ k * W ∧ k * W + i < W * H := by
  have h0 : 0 ≤ k * W := Int.mul_nonneg k0 (by omega)
  have h1 : (k + 1) * W ≤ H * W := Int.mul_le_mul_of_nonneg_right (by omega) (by omega)
  have h2 : (k + 1) * W = k * W + W := by grind
  have h3 : H * W = W * H := Int.mul_comm _ _
  exact ⟨h0, by omega⟩
theorem idx_nval' {i n p : Int} (h : idxO i n p = none) : idxN i n p = 0 ∧ idxB i n p = false := by simp [idxN, idxB, h]
set_option maxHeartbeats 1000000 in
theorem rpixel_any (W H M : Int) (L : List Int) (a : Option Addr) (cap : Nat) (q f x y : Int) (w : World) (hs : SliceIs w a L) (hv : planeB W H M L = true) (x0 : -9223372036854775808 ≤ x) (x1 : x ≤ 9223372036854775807) (y0 : -9223372036854775808 ≤ y) (y1 : y ≤ 9223372036854775807) :
    Calls Try.prog 49 #[.agg #[.int .i64 W, .int .i64 H, .int .i64 M, .slice a L.length cap], .agg #[.int .i64 q, .int .i64 f], .int .i64 x, .int .i64 y] w (NumPost (pixN W H L q f x y) w) := by
  obtain ⟨hz, hlen, _⟩ := planeB_t.1 hv
  obtain ⟨⟨w1, w2⟩, ⟨h1, h2⟩, hp, m1, m2⟩ := sizeB_t.1 hz
  have hs' := Lib.hid hs
  have hlen' := Lib.hid hlen
  clear hs hv hz hlen
  rcases hx : idxO x W q with _ | i
  · have hX := Lib.hid (idx_nval' hx)
    have hN := Lib.hid (show f = pixN W H L q f x y by simp [pixN, pixO, hx])
    obtain ⟨k, v, hY⟩ : ∃ k v, idxN y H q = k ∧ idxB y H q = v := ⟨_, _, rfl, rfl⟩
    have hY' := Lib.hid hY
    clear hx hY
    go_enter Try.func49, Try.ntmps49
    go_wp2_with fail
    refine (rindex_is' _ x0 x1 hX.out.1 hX.out.2).mono ?_; rintro e w1 ⟨rfl, rfl⟩
    go_wp2_with fail
    refine (rindex_is' _ y0 y1 hY'.out.1 hY'.out.2).mono ?_; rintro e w1 ⟨rfl, rfl⟩
    go_wp2_with fail
    go_ret
    exact ⟨ret_int hN.out, balloc (balloc (bref _) _) _⟩
  · have hX := Lib.hid (idx_val hx)
    rcases hy : idxO y H q with _ | k
    · have hY := Lib.hid (idx_nval' hy)
      have hN := Lib.hid (show f = pixN W H L q f x y by simp [pixN, pixO, hx, hy])
      clear hx hy
      go_enter Try.func49, Try.ntmps49
      go_wp2_with fail
      refine (rindex_is' _ x0 x1 hX.out.1 hX.out.2).mono ?_; rintro e w1 ⟨rfl, rfl⟩
      go_wp2_with fail
      refine (rindex_is' _ y0 y1 hY.out.1 hY.out.2).mono ?_; rintro e w1 ⟨rfl, rfl⟩
      go_wp2_with fail
      go_ret
      exact ⟨ret_int hN.out, balloc (balloc (bref _) _) _⟩
    · have hY := Lib.hid (idx_val hy)
      obtain ⟨i0, i1, _, _⟩ := idx_bd hx
      obtain ⟨k0, k1, _, _⟩ := idx_bd hy
      obtain ⟨t0, t1⟩ := place_bd k0 k1 i0 i1
      obtain ⟨T, eT⟩ : ∃ T, k * W = T := ⟨_, rfl⟩
      have hN := Lib.hid (show L.getD (T + i).toNat 0 = pixN W H L q f x y by simp [pixN, pixO, hx, hy, eT])
      rw [eT] at t0 t1
      have hlt : (T + i).toNat < L.length := by have := hlen'.out; omega
      have hb := balloc (balloc (bref w) (.cells #[.int .i64 W, .int .i64 H, .int .i64 M, .slice a L.length cap] 35)) (.cells #[.int .i64 q, .int .i64 f] 38)
      obtain ⟨b, off, rfl, hcell⟩ := (is_below hs'.out hb) _ hlt
      have hlt2 : T + i < L.length := by omega
      obtain ⟨j, ej⟩ : ∃ j : Nat, T + i = j := ⟨(T + i).toNat, by omega⟩
      have hj : (T + i).toNat = j := by omega
      rw [hj] at hcell hN
      obtain ⟨V, eV⟩ : ∃ V, L.getD j 0 = V := ⟨_, rfl⟩
      rw [eV] at hcell hN
      clear hx hy eV hj
      go_enter Try.func49, Try.ntmps49
      go_wp2_with fail
      refine (rindex_is' _ x0 x1 hX.out.1 hX.out.2).mono ?_; rintro e w1 ⟨rfl, rfl⟩
      go_wp2_with fail
      refine (rindex_is' _ y0 y1 hY.out.1 hY.out.2).mono ?_; rintro e w1 ⟨rfl, rfl⟩
      go_wp2_with fail
      go_ret
      exact ⟨ret_int hN.out, balloc (balloc (bref _) _) _⟩
open Go.ChangeShapes Go.WideShapes Go.ChangeAt Go.RowKit
set_option linter.unusedVariables false
set_option linter.unusedSimpArgs false

theorem rpvalid_is {W H M : Int} {L : List Int} {v : Bool} (h : planeB W H M L = v) (a : Option Addr) (cap : Nat) (w : World) (hs : SliceIs w a L) (hl : L.length ≤ 9223372036854775807) :
    Calls Try.prog 43 #[.agg #[.int .i64 W, .int .i64 H, .int .i64 M, .slice a L.length cap]] w (TestPost v w) := by
  rw [← h]; exact rpvalid_any W H M L a cap w hs hl
theorem redge_is' {q f m : Int} {v : Bool} (w : World) (h : edgeB q f m = v) : Calls Try.prog 44 #[.agg #[.int .i64 q, .int .i64 f], .int .i64 m] w (TestPost v w) := by
  rw [← h]; exact redge_any q f m w
end Go.Proofs.Ytibmoibhbgbfoaa
