/- The developers' sum of package convolve as a contract: its two loops add the products in the order of the kernel. -/
import Derived.Test.YtibmoibhbgbfoaaCTile
import Derived.Test.YtibmoibhbgbfoaaCProgA
namespace Go.Proofs.Ytibmoibhbgbfoaa
open Go.ChangeShapes Go.WideShapes Go.ChangeAt Go.RowKit
set_option linter.unusedVariables false
set_option linter.unusedSimpArgs false

/-- a plane and an edge in two blocks; only new blocks have come -/
structure SumS (W2 : World) (B : Nat) (W H M : Int) (sl : Value) (q f : Int) (w' : World) : Prop where
  below : Below W2.heap.size W2 w'
  p0 : w'.cell? ⟨B, 0, none⟩ = some (.int .i64 W)
  p1 : w'.cell? ⟨B, 1, none⟩ = some (.int .i64 H)
  p2 : w'.cell? ⟨B, 2, none⟩ = some (.int .i64 M)
  p3 : w'.cell? ⟨B, 3, none⟩ = some sl
  e0 : w'.cell? ⟨B + 1, 0, none⟩ = some (.int .i64 q)
  e1 : w'.cell? ⟨B + 1, 1, none⟩ = some (.int .i64 f)
theorem SumS.more {W2 : World} {B : Nat} {W H M : Int} {sl : Value} {q f : Int} {w' w2 : World} (h : SumS W2 B W H M sl q f w') (hb : Below w'.heap.size w' w2) : SumS W2 B W H M sl q f w2 :=
  ⟨bthen h.below hb, bkeep hb h.p0, bkeep hb h.p1, bkeep hb h.p2, bkeep hb h.p3, bkeep hb h.e0, bkeep hb h.e1⟩
theorem sums_start (w : World) (W H M : Int) (sl : Value) (q f : Int) (t0 t1 : TypeId) {W2 : World} (e : (w.alloc (.cells #[.int .i64 W, .int .i64 H, .int .i64 M, sl] t0)).alloc (.cells #[.int .i64 q, .int .i64 f] t1) = W2) :
    SumS W2 w.heap.size W H M sl q f W2 ∧ Below w.heap.size w W2 := by
  subst e
  exact ⟨⟨bref _, by go_cell, by go_cell, by go_cell, by go_cell, by go_cell, by go_cell⟩, balloc (balloc (bref w) _) _⟩
/-- a step of the sum, each operation behind Go's wrap -/
theorem sum_wraps {W H M : Int} {P : List Int} {q f : Int} {kw kh : Nat} {K : List Int} (hv : planeB W H M P = true) (he : edgeB q f M = true) (hK : K.all weightB = true) (hM : M ≤ 4294967296) (k1 : 1 ≤ kw ∧ kw ≤ 9) (k2 : 1 ≤ kh ∧ kh ≤ 9) (hkl : kw * kh = K.length) {i j : Nat} (hi : i < kw) (hj : j < kh) {x y left top : Int} (hx : 0 ≤ x ∧ x ≤ 128) (hy : 0 ≤ y ∧ y ≤ 128) (el : x - (kw : Int) / 2 = left) (et : y - (kh : Int) / 2 = top) :
    ∃ (A X Y v p T S S2 : Int) (n : Nat), j * kw + i = n ∧ n < K.length ∧ IntKind.i64.wrap ((j : Int) * (kw : Int)) = A ∧ IntKind.i64.wrap (A + (i : Int)) = n ∧ IntKind.i64.wrap (left + (i : Int)) = X ∧ IntKind.i64.wrap (top + (j : Int)) = Y ∧
      IntKind.i64.wrap (v * p) = T ∧ IntKind.i64.wrap (S + T) = S2 ∧ K.getD n 0 = v ∧ pixN W H P q f X Y = p ∧ convS W H P q f kw kh K x y n = S ∧ convS W H P q f kw kh K x y (n + 1) = S2 ∧ (-1000 ≤ X ∧ X ≤ 1000) ∧ (-1000 ≤ Y ∧ Y ≤ 1000) := by
  have hn : j * kw + i < K.length := by
    have h1 : (j + 1) * kw ≤ kh * kw := Nat.mul_le_mul_right _ (by omega)
    rw [Nat.add_one_mul] at h1
    rw [← hkl, Nat.mul_comm kw kh]; omega
  have h81 : K.length ≤ 81 := by
    have h1 : kw * kh ≤ 9 * 9 := Nat.mul_le_mul k1.2 k2.2
    omega
  obtain ⟨n, en⟩ : ∃ n : Nat, j * kw + i = n := ⟨_, rfl⟩
  rw [en] at hn
  have hA : ((j : Int) * (kw : Int)) + i = n := by exact_mod_cast en
  have hA0 : 0 ≤ (j : Int) * (kw : Int) := Int.mul_nonneg (by omega) (by omega)
  have e1 : (n : Int) % (kw : Int) = i := by
    rw [← hA, Int.add_comm, Int.add_mul_emod_self_right]
    exact Int.emod_eq_of_lt (by omega) (by omega)
  have e2 : (n : Int) / (kw : Int) = j := by
    rw [← hA, Int.add_comm, Int.add_mul_ediv_right _ _ (by omega), Int.ediv_eq_zero_of_lt (by omega) (by omega)]; omega
  have b3 := convT_bd (q := q) (f := f) (kw := kw) (kh := kh) hv he hK hM hn x y
  have b4 := convS_bd (q := q) (f := f) (kw := kw) (kh := kh) hv he hK hM x y n (by omega)
  have b5 := convS_step W H P q f kw kh K x y n
  have eX : x + (n : Int) % (kw : Int) - (kw : Int) / 2 = left + i := by rw [e1]; omega
  have eY : y + (n : Int) / (kw : Int) - (kh : Int) / 2 = top + j := by rw [e2]; omega
  have b6 : convT W H P q f kw kh K x y n = K.getD n 0 * pixN W H P q f (left + i) (top + j) := by unfold convT; rw [eX, eY]
  refine ⟨_, left + i, top + j, _, _, convT W H P q f kw kh K x y n, _, _, n, en, hn, IntWalk.i64_in _ (by omega), ?_, IntWalk.i64_in _ (by omega), IntWalk.i64_in _ (by omega), ?_, ?_, rfl, rfl, rfl, rfl, by omega, by omega⟩
  · rw [hA]; exact IntWalk.i64_in _ (by omega)
  · rw [← b6]; exact IntWalk.i64_in _ (by omega)
  · rw [b5]; exact IntWalk.i64_in _ (by omega)
set_option maxRecDepth 100000 in
set_option maxHeartbeats 4000000 in
theorem csum_any (W H M : Int) (P : List Int) (a : Option Addr) (cap : Nat) (q f : Int) (kw kh : Nat) (K : List Int) (ka : Option Addr) (kl kc : Nat) (x y left top : Int) (w : World) (hs : SliceIs w a P) (hl : P.length ≤ 9223372036854775807) (hk : SliceIs w ka K) (ek : K.length = kl) (hv : planeB W H M P = true) (he : edgeB q f M = true) (hK : K.all weightB = true) (hM : M ≤ 4294967296) (k1 : 1 ≤ kw ∧ kw ≤ 9) (k2 : 1 ≤ kh ∧ kh ≤ 9) (hkl : kw * kh = kl) (hx : 0 ≤ x ∧ x ≤ 128) (hy : 0 ≤ y ∧ y ≤ 128) (el : x - (kw : Int) / 2 = left) (et : y - (kh : Int) / 2 = top) :
    Calls Try.prog 40 #[.agg #[.int .i64 W, .int .i64 H, .int .i64 M, .slice a P.length cap], .agg #[.int .i64 q, .int .i64 f], .int .i64 kw, .int .i64 kh, .slice ka kl kc, .int .i64 left, .int .i64 top] w (NumPost (convS W H P q f kw kh K x y kl) w) := by
  have hq := Lib.hid (show 0 ≤ q ∧ q ≤ 3 by have := edgeB_t.1 he; omega)
  have hkl81 : kl ≤ 81 := by
    have h1 : kw * kh ≤ 9 * 9 := Nat.mul_le_mul k1.2 k2.2
    omega
  obtain ⟨F, eF⟩ : ∃ F : Nat → Int, convS W H P q f kw kh K x y = F := ⟨_, rfl⟩
  have hF0 : F 0 = 0 := by rw [← eF]; simp [convS]
  have hCV : Hid (∀ i j : Nat, i < kw → j < kh → ∃ (A X Y v p T S S2 : Int) (n : Nat), j * kw + i = n ∧ n < kl ∧ IntKind.i64.wrap ((j : Int) * (kw : Int)) = A ∧ IntKind.i64.wrap (A + (i : Int)) = n ∧ IntKind.i64.wrap (left + (i : Int)) = X ∧ IntKind.i64.wrap (top + (j : Int)) = Y ∧
      IntKind.i64.wrap (v * p) = T ∧ IntKind.i64.wrap (S + T) = S2 ∧ K.getD n 0 = v ∧ pixN W H P q f X Y = p ∧ F n = S ∧ F (n + 1) = S2 ∧ (-1000 ≤ X ∧ X ≤ 1000) ∧ (-1000 ≤ Y ∧ Y ≤ 1000)) :=
    Lib.hid (fun i j hi hj => by rw [← eF, ← ek]; exact sum_wraps hv he hK hM k1 k2 (by rw [hkl, ek]) hi hj hx hy el et)
  have hKL := Lib.hid hkl
  have hk1 := Lib.hid k1
  have hk2 := Lib.hid k2
  have hs' := Lib.hid hs
  have hk' := Lib.hid hk
  have hl' := Lib.hid hl
  have ek' := Lib.hid ek
  have hv' := Lib.hid hv
  have h81 := Lib.hid hkl81
  rw [eF]
  clear hv he hs hk hl ek hK hM k1 k2 hkl hkl81 hx hy el et eF
  go_enter Try.func40, Try.ntmps40
  go_wp2_with fail
  obtain ⟨W2, eW2⟩ : ∃ W2, (w.alloc (.cells #[.int .i64 W, .int .i64 H, .int .i64 M, .slice a P.length cap] 35)).alloc (.cells #[.int .i64 q, .int .i64 f] 38) = W2 := ⟨_, rfl⟩
  obtain ⟨hA, hB⟩ := sums_start w W H M (.slice a P.length cap) q f 35 38 eW2
  simp only [eW2]
  clear eW2
  have hsb := Lib.hid (is_below hs'.out hB)
  have hkb := Lib.hid (is_below hk'.out hB)
  have hB' := Lib.hid hB
  replace hA := Lib.hid hA
  clear hB
  go_loopw [15, 19] (fun sv jv wr => ∃ j : Nat, j ≤ kh ∧ jv = .int .i64 j ∧ sv = .int .i64 (F (j * kw)) ∧ Hid (SumS W2 w.heap.size W H M (.slice a P.length cap) q f wr)) (fun _ jv _ => kh - (intOf jv).toNat)
  case atStart => exact ⟨0, by omega, rfl, by rw [Nat.zero_mul, hF0], hA⟩
  case round =>
    clear hA
    obtain ⟨j, hj, rfl, rfl, hS⟩ := hrel
    by_cases hlt : j < kh
    · have hjI : (j : Int) < kh := by omega
      have wj1 : wrap64 ((j : Int) + 1) = (j : Int) + 1 := by have := hk2.out; unfold wrap64; omega
      have hj1 : j + 1 ≤ kh := hlt
      have hmj := down_meas hlt
      go_wp2_with fail
      go_loopw [15, 23] (fun sv iv wr => ∃ i : Nat, i ≤ kw ∧ iv = .int .i64 i ∧ sv = .int .i64 (F (j * kw + i)) ∧ Hid (SumS W2 w.heap.size W H M (.slice a P.length cap) q f wr)) (fun _ iv _ => kw - (intOf iv).toNat)
      case atStart => exact ⟨0, by omega, rfl, rfl, hS⟩
      case round =>
        clear hS
        obtain ⟨i, hi, rfl, rfl, hS⟩ := hrel
        by_cases hil : i < kw
        · have hiI : (i : Int) < kw := by omega
          have wi1 : wrap64 ((i : Int) + 1) = (i : Int) + 1 := by have := hk1.out; unfold wrap64; omega
          have hi1 : i + 1 ≤ kw := hil
          have hmi := down_meas hil
          obtain ⟨A, X, Y, v, p, T, S, S2, n, en, hn, u1, u2, u3, u4, u5, u6, u7, u8, u9, u10, u11, u12⟩ := hCV.out i j hil hlt
          obtain ⟨wb, wo, rfl, hcell⟩ := hkb.out n (by rw [ek'.out]; exact hn)
          rw [u7] at hcell
          have EP := Lib.hid u8
          have ES2 := Lib.hid u10
          have hXY := Lib.hid (show (-9223372036854775808 ≤ X ∧ X ≤ 9223372036854775807) ∧ (-9223372036854775808 ≤ Y ∧ Y ≤ 9223372036854775807) by omega)
          have hnI : (n : Int) < kl := by omega
          rw [en, u9]
          have EN := Lib.hid en
          haveI : Nonempty (In (SumS W2 w.heap.size W H M (.slice a P.length cap) q f)) := ⟨⟨_, hS.out⟩⟩
          have g0 : ∀ s : In (SumS W2 w.heap.size W H M (.slice a P.length cap) q f), s.w.cell? ⟨w.heap.size, 0, none⟩ = some (.int .i64 W) := fun s => s.h.p0
          have g1 : ∀ s : In (SumS W2 w.heap.size W H M (.slice a P.length cap) q f), s.w.cell? ⟨w.heap.size, 1, none⟩ = some (.int .i64 H) := fun s => s.h.p1
          have g2 : ∀ s : In (SumS W2 w.heap.size W H M (.slice a P.length cap) q f), s.w.cell? ⟨w.heap.size, 2, none⟩ = some (.int .i64 M) := fun s => s.h.p2
          have g3 : ∀ s : In (SumS W2 w.heap.size W H M (.slice a P.length cap) q f), s.w.cell? ⟨w.heap.size, 3, none⟩ = some (.slice a P.length cap) := fun s => s.h.p3
          have g4 : ∀ s : In (SumS W2 w.heap.size W H M (.slice a P.length cap) q f), s.w.cell? ⟨w.heap.size + 1, 0, none⟩ = some (.int .i64 q) := fun s => s.h.e0
          have g5 : ∀ s : In (SumS W2 w.heap.size W H M (.slice a P.length cap) q f), s.w.cell? ⟨w.heap.size + 1, 1, none⟩ = some (.int .i64 f) := fun s => s.h.e1
          have g6 : ∀ s : In (SumS W2 w.heap.size W H M (.slice a P.length cap) q f), s.w.cell? ⟨wb, wo + n, none⟩ = some (.int .i64 v) := fun s => bkeep s.h.below hcell
          clear u7 u8 u9 u10 u11 u12 hcell en
          go_wp2_with fail
          refine wp_region_in (S := SumS W2 w.heap.size W H M (.slice a P.length cap) q f) (by kernel_rfl) (by kernel_rfl) (hS.out.more (bdrew1 (bref _))) ?_
          repeat (go_big_quiet_step ((go_at_call 63; exact in_below _ (fun hb h => h.more hb) (cpix_is EP.out _ _ _ (is_below hsb.out (show Below W2.heap.size W2 _ from (In.h (S := SumS W2 w.heap.size W H M (.slice a P.length cap) q f) _).below)) hv'.out hq.out hXY.out.1.1 hXY.out.1.2 hXY.out.2.1 hXY.out.2.2))))
          refine wpQuiet_nil ?_
          rintro _ ⟨s8, rfl⟩
          clear g0 g1 g2 g3 g4 g5 g6 u1 u2 u3 u4 u5 u6
          go_wp2_with fail
          exact ⟨⟨i + 1, hi1, by (try rw [wi1]); exact congrArg (Value.int .i64) (by omega), by rw [show j * kw + (i + 1) = n + 1 by have := EN.out; omega, ES2.out], Lib.hid s8.h⟩, by (try rw [wi1]); exact hmi⟩
        · obtain rfl : i = kw := by omega
          have hge : ¬ (i : Int) < i := by omega
          go_wp2_with fail
          go_roundw
          case rel => exact ⟨j + 1, hj1, by (try rw [wj1]); exact congrArg (Value.int .i64) (by omega), by rw [Nat.add_one_mul], hS⟩
          case measure => (try rw [wj1]); exact hmj
    · obtain rfl : j = kh := by omega
      have hge : ¬ (j : Int) < j := by omega
      go_wp2_with fail
      go_ret
      exact ⟨ret_int (by rw [Nat.mul_comm, hKL.out]), bthen hB'.out hS.out.below⟩
end Go.Proofs.Ytibmoibhbgbfoaa
