/- Linear of the reference as a contract: the table that it makes, or the error; the world gets new blocks at most. -/
import Derived.Test.YtjmdpebocchdhaaDoorTPlain
import Derived.Test.YtjmdpebocchdhaaDoorHShift
import Derived.Deep.DeepCutAuto
import Derived.Deep.DeepMust
namespace Go.Proofs.YtjmdpebocchdhaaDoor
open Go.ChangeShapes Go.WideShapes Go.ChangeAt Go.RowKit
set_option linter.unusedVariables false
set_option linter.unusedSimpArgs false

theorem rside_is {n : Int} {b : Bool} (h : sideT n = b) (w : World) : Calls Tryd.prog 27 #[.int .i64 n] w fun e w' => e = .returned (.bool b) ∧ w = w' := by
  subst h
  go_enter Tryd.func27, Tryd.ntmps27
  go_wp2
  all_goals (go_ret; refine ⟨ret_bool ?_, rfl⟩; unfold sideT; first | (simp; done) | (simp; omega) | (simp at *; omega))
theorem rfirst_is {n : Int} {b : Bool} (h : firstT n = b) (w : World) : Calls Tryd.prog 29 #[.int .i64 n] w fun e w' => e = .returned (.bool b) ∧ w = w' := by
  subst h
  go_enter Tryd.func29, Tryd.ntmps29
  go_wp2
  all_goals (go_ret; refine ⟨ret_bool ?_, rfl⟩; unfold firstT; first | (simp; done) | (simp; omega) | (simp at *; omega))
/-- a table of one's own came back, and a code; only new blocks came -/
def TabPost (T : List Tp) (c : Int) (w : World) (e : Ending) (w' : World) : Prop := ∃ (v : Value) (V : List Tv), e = .returned (.tuple #[v, .int .i64 c]) ∧ V.map Tv.tp = T ∧ OwnT w.heap.size w' v V ∧ Below w.heap.size w w'
theorem tab_nil {T : List Tp} {c : Int} {w w' : World} (hT : T = []) (hb : Below w.heap.size w w') : TabPost T c w (.returned (.tuple #[.slice none 0 0, .int .i64 c])) w' := by
  subst hT
  exact ⟨_, [], rfl, rfl, OwnT.nil _ _, hb⟩
theorem prod_lim {x y X Y : Int} (hx : -X ≤ x ∧ x ≤ X) (hy : -Y ≤ y ∧ y ≤ Y) : -(X * Y) ≤ x * y ∧ x * y ≤ X * Y := by
  have hX : 0 ≤ X := by omega
  have hY : 0 ≤ Y := by omega
  have h1 : x * y ≤ X * Y := by
    by_cases g : 0 ≤ y
    · calc x * y ≤ X * y := Int.mul_le_mul_of_nonneg_right hx.2 g
        _ ≤ X * Y := Int.mul_le_mul_of_nonneg_left hy.2 hX
    · calc x * y ≤ (-X) * y := Int.mul_le_mul_of_nonpos_right hx.1 (by omega)
        _ = X * (-y) := by rw [Int.neg_mul, Int.mul_neg]
        _ ≤ X * Y := Int.mul_le_mul_of_nonneg_left (by omega) hX
  have h2 : -(X * Y) ≤ x * y := by
    have : (-x) * y ≤ X * Y := by
      by_cases g : 0 ≤ y
      · calc (-x) * y ≤ X * y := Int.mul_le_mul_of_nonneg_right (by omega) g
          _ ≤ X * Y := Int.mul_le_mul_of_nonneg_left hy.2 hX
      · calc (-x) * y ≤ (-X) * y := Int.mul_le_mul_of_nonpos_right (by omega) (by omega)
          _ = X * (-y) := by rw [Int.neg_mul, Int.mul_neg]
          _ ≤ X * Y := Int.mul_le_mul_of_nonneg_left (by omega) hX
    rw [Int.neg_mul] at this; omega
  exact ⟨h2, h1⟩
/-- the numbers of a linear tap by name -/
theorem lin_names {n m s : Int} {i : Nat} (hn : 1 ≤ n ∧ n ≤ 128) (hm : 1 ≤ m ∧ m ≤ 128) (hs : 0 ≤ s ∧ s ≤ 14) (hi : (i : Int) < m) : ∃ A P D Q QD K KD r RR W N1 : Int, (2 * (i : Int) + 1) * n = A ∧ A - m = P ∧ 2 * m = D ∧ P.tdiv D = Q ∧ Q * D = QD ∧ ((P < QD ∧ K = Q - 1) ∨ (¬ P < QD ∧ K = Q)) ∧ K * D = KD ∧ P - KD = r ∧ one s = N1 ∧ 2 * r * N1 = RR ∧ (RR + D) / (2 * D) = W ∧
    (-32768 ≤ A ∧ A ≤ 32768) ∧ (2 ≤ D ∧ D ≤ 256) ∧ (-40000 ≤ Q ∧ Q ≤ 40000) ∧ (-40000 ≤ QD ∧ QD ≤ 40000) ∧ (-40000 ≤ KD ∧ KD ≤ 40000) ∧ (0 ≤ r ∧ r ≤ 256) ∧ (0 ≤ RR ∧ RR ≤ 8388608) ∧ (0 ≤ W ∧ W ≤ N1) ∧ (1 ≤ N1 ∧ N1 ≤ 16384) ∧ (-128 ≤ K ∧ K ≤ 256) ∧ linTap n m s i = ⟨K, [N1 - W, W]⟩ := by
  have hA : -((256 : Int) * 128) ≤ (2 * (i : Int) + 1) * n ∧ (2 * (i : Int) + 1) * n ≤ 256 * 128 := prod_lim (by omega) (by omega)
  obtain ⟨A, eA⟩ : ∃ A, (2 * (i : Int) + 1) * n = A := ⟨_, rfl⟩
  rw [eA] at hA
  have hpos : 0 ≤ A := by rw [← eA]; exact Int.mul_nonneg (by omega) (by omega)
  have hup : A ≤ (2 * m - 1) * 128 := by
    rw [← eA]
    calc (2 * (i : Int) + 1) * n ≤ (2 * m - 1) * n := Int.mul_le_mul_of_nonneg_right (by omega) (by omega)
      _ ≤ (2 * m - 1) * 128 := Int.mul_le_mul_of_nonneg_left (by omega) (by omega)
  have hb := quo_bd (n := A - m) (d := 2 * m) (by omega) 40000 (by omega)
  have hf := quo_fix (n := A - m) (d := 2 * m) (by omega)
  have hP : linP n m i = A - m := by unfold linP; rw [eA]
  have hK : linK n m i = (A - m) / (2 * m) := by unfold linK; rw [hP]
  have hdm := Int.emod_add_mul_ediv (A - m) (2 * m)
  have hm0 := Int.emod_nonneg (A - m) (show 2 * m ≠ 0 by omega)
  have hm1 := Int.emod_lt_of_pos (A - m) (show 0 < 2 * m by omega)
  have hc : (2 * m) * ((A - m) / (2 * m)) = (A - m) / (2 * m) * (2 * m) := Int.mul_comm _ _
  obtain ⟨K, eK⟩ : ∃ K, (A - m) / (2 * m) = K := ⟨_, rfl⟩
  have hkb : -128 ≤ K ∧ K ≤ 256 := by
    rw [← eK]
    constructor
    · exact (Int.le_ediv_iff_mul_le (by omega)).2 (by omega)
    · have : (A - m) / (2 * m) < 256 + 1 := (Int.ediv_lt_iff_lt_mul (by omega)).2 (by omega)
      omega
  rw [hc] at hdm
  rw [eK] at hf hdm hK
  obtain ⟨KD, eKD⟩ : ∃ KD, K * (2 * m) = KD := ⟨_, rfl⟩
  rw [eKD] at hdm
  obtain ⟨r, er⟩ : ∃ r, A - m - KD = r := ⟨_, rfl⟩
  have hr : 0 ≤ r ∧ r < 2 * m := by omega
  have hN := one_bd hs
  obtain ⟨N1, eN⟩ : ∃ N, one s = N := ⟨_, rfl⟩
  rw [eN] at hN
  obtain ⟨RR, eR⟩ : ∃ RR, 2 * r * N1 = RR := ⟨_, rfl⟩
  have hRR0 : 0 ≤ RR := by rw [← eR]; exact Int.mul_nonneg (by omega) (by omega)
  have hRR1 : RR ≤ 2 * (2 * m - 1) * N1 := by rw [← eR]; exact Int.mul_le_mul_of_nonneg_right (by omega) (by omega)
  have hRR2 : RR ≤ 512 * 16384 := by
    rw [← eR]
    calc 2 * r * N1 ≤ 512 * N1 := Int.mul_le_mul_of_nonneg_right (by omega) (by omega)
      _ ≤ 512 * 16384 := Int.mul_le_mul_of_nonneg_left (by omega) (by omega)
  have hW0 : 0 ≤ (RR + 2 * m) / (2 * (2 * m)) := Int.ediv_nonneg (by omega) (by omega)
  have hW1 : (RR + 2 * m) / (2 * (2 * m)) ≤ N1 := by
    have : (RR + 2 * m) / (2 * (2 * m)) < N1 + 1 := by
      refine (Int.ediv_lt_iff_lt_mul (by omega)).2 ?_
      have e1 : 2 * (2 * m - 1) * N1 = 2 * (2 * m) * N1 - 2 * N1 := by
        rw [Int.mul_sub, Int.sub_mul, Int.mul_one]
      have e2 : (N1 + 1) * (2 * (2 * m)) = 2 * (2 * m) * N1 + 2 * (2 * m) := by rw [Int.add_mul, Int.one_mul, Int.mul_comm N1]
      rw [e1] at hRR1
      rw [e2]
      generalize 2 * (2 * m) * N1 = X at *
      omega
    omega
  refine ⟨A, A - m, 2 * m, (A - m).tdiv (2 * m), _, K, KD, r, RR, _, N1, eA, rfl, rfl, rfl, rfl, ?_, eKD, er, eN, eR, rfl, by omega, by omega, hb.1, hb.2, by omega, by omega, by omega, ⟨hW0, hW1⟩, hN, hkb, ?_⟩
  · by_cases g : A - m < (A - m).tdiv (2 * m) * (2 * m)
    · left; exact ⟨g, hf.1 g⟩
    · right; exact ⟨g, hf.2 g⟩
  · unfold linTap linW
    rw [hK, hP, eN, eKD, er, eR]
theorem w64 {x : Int} (h : -1000000000 ≤ x ∧ x ≤ 1000000000) : wrap64 x = x := by unfold wrap64; omega
/-- the same, each behind Go's wrap: what the walk meets, in its order -/
theorem lin_wraps {n m s : Int} {i : Nat} (hn : 1 ≤ n ∧ n ≤ 128) (hm : 1 ≤ m ∧ m ≤ 128) (hs : 0 ≤ s ∧ s ≤ 14) (hi : (i : Int) < m) : ∃ A0 A1 A P D Q QD K KD r r2 RR RD D2 W N1 V1 : Int, wrap64 (2 * (i : Int)) = A0 ∧ wrap64 (A0 + 1) = A1 ∧ wrap64 (A1 * n) = A ∧ wrap64 (A - m) = P ∧ wrap64 (2 * m) = D ∧ wrap64 (P.tdiv D) = Q ∧ wrap64 (Q * D) = QD ∧ ((P < QD ∧ wrap64 (Q - 1) = K) ∨ (¬ P < QD ∧ K = Q)) ∧ wrap64 (K * D) = KD ∧ wrap64 (P - KD) = r ∧ wrap64 (2 ^ s.toNat) = N1 ∧ wrap64 (2 * r) = r2 ∧ wrap64 (r2 * N1) = RR ∧ wrap64 (RR + D) = RD ∧ wrap64 (2 * D) = D2 ∧ wrap64 (RD.tdiv D2) = W ∧ wrap64 (N1 - W) = V1 ∧ ¬ D = 0 ∧ ¬ D2 = 0 ∧ linTap n m s i = ⟨K, [V1, W]⟩ := by
  obtain ⟨A, P, D, Q, QD, K, KD, r, RR, W, N1, e1, e2, e3, e4, e5, e6, e7, e8, e9, e10, e11, b1, b2, b3, b4, b5, b6, b7, b8, b9, b10, eT⟩ := lin_names hn hm hs hi
  have hW : (RR + D).tdiv (2 * D) = W := by rw [Int.tdiv_eq_ediv_of_nonneg (by omega)]; exact e11
  refine ⟨2 * (i : Int), 2 * (i : Int) + 1, A, P, D, Q, QD, K, KD, r, 2 * r, RR, RR + D, 2 * D, W, N1, N1 - W, ?_, ?_, ?_, ?_, ?_, ?_, ?_, ?_, ?_, ?_, ?_, ?_, ?_, ?_, ?_, ?_, ?_, ?_, ?_, eT⟩
  · exact w64 (by omega)
  · exact w64 (by omega)
  · rw [e1]; exact w64 (by omega)
  · rw [e2]; exact w64 (by omega)
  · rw [e3]; exact w64 (by omega)
  · rw [e4]; exact w64 (by omega)
  · rw [e5]; exact w64 (by omega)
  · rcases e6 with ⟨g1, g2⟩ | ⟨g1, g2⟩
    · left; exact ⟨g1, by rw [g2]; exact w64 (by omega)⟩
    · right; exact ⟨g1, g2⟩
  · rw [e7]; exact w64 (by omega)
  · rw [e8]; exact w64 (by omega)
  · rw [← e9]; unfold one at *; exact w64 (by omega)
  · exact w64 (by omega)
  · rw [e10]; exact w64 (by omega)
  · exact w64 (by omega)
  · exact w64 (by omega)
  · rw [hW]; exact w64 (by omega)
  · exact w64 (by omega)
  · omega
  · omega
/-- the table so far -/
def TabIn (w : World) (T : List Tp) (v : Value) (V : List Tv) (wr : World) : Prop := V.map Tv.tp = T ∧ OwnT w.heap.size wr v V ∧ Below w.heap.size w wr
theorem TabIn.below {w : World} {T : List Tp} {v : Value} {V : List Tv} {wr w' : World} (h : TabIn w T v V wr) (hb : Below wr.heap.size wr w') : TabIn w T v V w' := ⟨h.1, h.2.1.below hb, bthen h.2.2 hb⟩
/-- one tap more, whose weights lie in a block that was made since -/
theorem TabIn.app {w : World} {T : List Tp} {v v' : Value} {V : List Tv} {wr wB w' : World} {t : Tv} {g H : Nat} (h : TabIn w T v V wr) (hb : Below wr.heap.size wr wB) (ho : w'.ownsRow w.heap.size 31 2 v' (V.length + 1) (flatT V ++ flatT [t])) (hg : wB.grownBy w' v.ownBlock) (hat : v.ownBlock = some g ∨ g = H) (hv : v'.ownBlock = some g) (hH : H = wB.heap.size)
    (ht : SliceIs wB t.ad t.L) (hn : ∀ b o s, t.ad = some ⟨b, o, s⟩ → wr.heap.size ≤ b ∧ b < wB.heap.size) : TabIn w (T ++ [t.tp]) v' (V ++ [t]) w' := by
  refine ⟨by rw [List.map_append, h.1]; rfl, (h.2.1.below hb).app ho hg hat hv hH ht (fun b o s e => ⟨Nat.le_trans (Nat.le_trans h.2.2.size (Nat.le_refl _)) (hn b o s e).1, fun e2 => ?_, (hn b o s e).2⟩), ?_⟩
  · have h1 := (h.2.1.lt e2).2
    have h2 := (hn b o s e).1
    omega
  · exact (bthen h.2.2 hb).grown hg (bthen h.2.2 hb).size (fun q e => ((h.2.1.below hb).lt e).1)
theorem wrap_sub {a b : Int} (h : 0 ≤ b ∧ b ≤ a) (h2 : 1 ≤ a ∧ a ≤ 16384) : wrap64 (a - b) = a - b := by unfold wrap64; omega
theorem down_meas {m k : Nat} (h : k < m) : m - (intOf (.int .i64 ((k : Int) + 1))).toNat < m - (intOf (.int .i64 (k : Int))).toNat := by simp [intOf]; omega
theorem heap_two (w : World) (o p : Obj) : ((w.alloc o).alloc p).heap[w.heap.size + 1]? = some p := by
  have := heap_alloc_new (w.alloc o) p
  simpa using this
set_option maxRecDepth 100000 in
set_option maxHeartbeats 4000000 in
theorem rlinear_in (n m s : Int) (w : World) (hn : 1 ≤ n ∧ n ≤ 128) (hm : 1 ≤ m ∧ m ≤ 128) (hs : 0 ≤ s ∧ s ≤ 14) : Calls Tryd.prog 20 #[.int .i64 n, .int .i64 m, .int .i64 s] w (TabPost (linT n m s) 0 w) := by
  have HN := Lib.hid (sideT_t.2 hn)
  have HM := Lib.hid (sideT_t.2 hm)
  have HT : Hid (linT n m s = linL n m s m.toNat) := Lib.hid (by
    have : makeC n m s = 0 := by unfold makeC; rw [sideT_t.2 hn, sideT_t.2 hm, if_neg (by simp), if_neg (by omega)]
    unfold linT; rw [if_pos this])
  obtain ⟨i0, hi, hi0, hi1, hi2⟩ := info_parts infoTap
  have hi' := Lib.hid hi
  have hi0' := Lib.hid hi0
  have hi1' := Lib.hid hi1
  have hi2' := Lib.hid hi2
  clear hi hi0 hi1 hi2
  have H0 : Hid (TabIn w [] (.slice none 0 0) [] w) := Lib.hid ⟨rfl, OwnT.nil _ _, bref _⟩
  have hone : one s = 2 ^ s.toNat := rfl
  have hs2 : IntKind.u64.wrap s = s := IntWalk.u64_in _ (by omega)
  have hbN := one_bd hs
  have hw1 : wrap64 (2 ^ s.toNat) = one s := by rw [← hone]; unfold wrap64; omega
  have HW1 := Lib.hid hw1
  clear hw1 hone hbN
  obtain ⟨mm, emm⟩ : ∃ mm : Nat, m = mm := ⟨m.toNat, by omega⟩
  subst emm
  obtain ⟨n0, n1⟩ := hn
  obtain ⟨s0, s1⟩ := hs
  go_enter Tryd.func20, Tryd.ntmps20
  go_wp2_with fail
  refine (rside_is HN.out _).mono ?_; rintro e w1 ⟨rfl, rfl⟩
  go_wp2_with fail
  refine (rside_is HM.out _).mono ?_; rintro e w1 ⟨rfl, rfl⟩
  go_wp2_with fail
  go_loopw [8, 9] (fun v i wr => ∃ (k : Nat) (V : List Tv), k ≤ mm ∧ i = .int .i64 k ∧ V.length = k ∧ Hid (TabIn w (linL n mm s k) v V wr)) (fun _ i _ => mm - (intOf i).toNat)
  case atStart => exact ⟨0, [], by omega, rfl, rfl, H0⟩
  case round =>
    clear H0
    obtain ⟨k, V, hk, rfl, rfl, HI⟩ := hrel
    by_cases hlt : V.length < mm
    · have hkI : (V.length : Int) < mm := by omega
      have L1 := Lib.hid (show V.length + 1 ≤ maxLen by unfold maxLen; omega)
      have L2 := Lib.hid (show (V.length + 1) * 32 ≤ 140737488355328 by omega)
      have L3 : Hid (∀ o p : Obj, w.heap.size ≤ ((wr.alloc o).alloc p).heap.size) := Lib.hid (fun o p => by have := HI.out.2.2.size; simp; omega)
      have q20 : wrap64 ((V.length : Int) + 1) = (V.length : Int) + 1 := w64 (by omega)
      obtain ⟨A0, A1, A, P, D, Q, QD, K, KD, r, r2, RR, RD, D2, W, N1, V1, q1, q2, q3, q4, q5, q6, q7, q8, q9, q10, q11, q12, q13, q14, q15, q16, q17, hD0, hD1, eT⟩ := lin_wraps (n := n) (m := mm) (s := s) (i := V.length) ⟨n0, n1⟩ hm ⟨s0, s1⟩ hkI
      have ET2 := Lib.hid (show linL n mm s (V.length + 1) = linL n mm s V.length ++ [⟨K, [V1, W]⟩] by rw [linL_step, eT])
      clear eT hm
      rcases q8 with ⟨g1, q8⟩ | ⟨g1, q8⟩
      · skip
        go_wp2_with (at_builtin; go_must (refine wpList_append_lies _ rfl _ _ _ rfl w.heap.size 31 i0 (.agg #[.int .i64 0, .slice none 0 0]) 2 32 Tryd.underlying23 hi'.out hi0'.out hi1'.out hi2'.out rfl (by decide) u8 V.length (flatT V) rfl (((HI.out.2.1.1.alloc _)).alloc _) ⟨wr.heap.size + 1, 0, none⟩ 1 1 (flatT [⟨K, some ⟨wr.heap.size, 0, none⟩, 2, [V1, W]⟩]) rfl rfl (World.news_of_block (heap_two _ _ _)) (by intro u hu; simp [flatT, Tv.val] at hu; rcases hu with rfl | rfl <;> rfl) (by decide) L1.out L2.out (L3.out _ _) (wr.heap.size + 2) (by simp) ?_); intro g gc wB hown hgrow hat hlB)
        have HB2 := Lib.hid (balloc (balloc (bref wr) (.cells #[.int .i64 V1, .int .i64 W] 3)) (.cells #[.int .i64 K, .slice (some ⟨wr.heap.size, 0, none⟩) 2 2] 31))
        have hin : Hid (SliceIs ((wr.alloc (.cells #[.int .i64 V1, .int .i64 W] 3)).alloc (.cells #[.int .i64 K, .slice (some ⟨wr.heap.size, 0, none⟩) 2 2] 31)) (some ⟨wr.heap.size, 0, none⟩) [V1, W]) := Lib.hid (is_below (fun k hk => ⟨_, _, rfl, by
          rw [Nat.zero_add, World.cell?_alloc_new]
          simp at hk; rcases (show k = 0 ∨ k = 1 by omega) with rfl | rfl <;> rfl⟩) (balloc (bref _) _))
        have HF := Lib.hid (HI.out.app HB2.out hown hgrow hat rfl (by simp) hin.out (fun b o s e => by cases e; simp; omega))
        clear q1 q2 q3 q4 q5 q6 q7 q9 q10 q11 q12 q13 q14 q15 q16 q17 g1 hD0 hD1
        (try clear q8)
        go_roundw
        case rel => exact ⟨V.length + 1, V ++ [⟨K, some ⟨wr.heap.size, 0, none⟩, 2, [V1, W]⟩], by omega, by go_num, by simp, by rw [ET2.out]; exact HF⟩
        case measure => rw [q20]; exact down_meas hlt
      · subst q8
        go_wp2_with (at_builtin; go_must (refine wpList_append_lies _ rfl _ _ _ rfl w.heap.size 31 i0 (.agg #[.int .i64 0, .slice none 0 0]) 2 32 Tryd.underlying23 hi'.out hi0'.out hi1'.out hi2'.out rfl (by decide) u8 V.length (flatT V) rfl (((HI.out.2.1.1.alloc _)).alloc _) ⟨wr.heap.size + 1, 0, none⟩ 1 1 (flatT [⟨K, some ⟨wr.heap.size, 0, none⟩, 2, [V1, W]⟩]) rfl rfl (World.news_of_block (heap_two _ _ _)) (by intro u hu; simp [flatT, Tv.val] at hu; rcases hu with rfl | rfl <;> rfl) (by decide) L1.out L2.out (L3.out _ _) (wr.heap.size + 2) (by simp) ?_); intro g gc wB hown hgrow hat hlB)
        have HB2 := Lib.hid (balloc (balloc (bref wr) (.cells #[.int .i64 V1, .int .i64 W] 3)) (.cells #[.int .i64 K, .slice (some ⟨wr.heap.size, 0, none⟩) 2 2] 31))
        have hin : Hid (SliceIs ((wr.alloc (.cells #[.int .i64 V1, .int .i64 W] 3)).alloc (.cells #[.int .i64 K, .slice (some ⟨wr.heap.size, 0, none⟩) 2 2] 31)) (some ⟨wr.heap.size, 0, none⟩) [V1, W]) := Lib.hid (is_below (fun k hk => ⟨_, _, rfl, by
          rw [Nat.zero_add, World.cell?_alloc_new]
          simp at hk; rcases (show k = 0 ∨ k = 1 by omega) with rfl | rfl <;> rfl⟩) (balloc (bref _) _))
        have HF := Lib.hid (HI.out.app HB2.out hown hgrow hat rfl (by simp) hin.out (fun b o s e => by cases e; simp; omega))
        clear q1 q2 q3 q4 q5 q6 q7 q9 q10 q11 q12 q13 q14 q15 q16 q17 g1 hD0 hD1
        (try clear q8)
        go_roundw
        case rel => exact ⟨V.length + 1, V ++ [⟨K, some ⟨wr.heap.size, 0, none⟩, 2, [V1, W]⟩], by omega, by go_num, by simp, by rw [ET2.out]; exact HF⟩
        case measure => rw [q20]; exact down_meas hlt
    · obtain rfl : V.length = mm := by omega
      go_wp2_with fail
      go_returns
      refine ⟨_, V, rfl, ?_, HI.out.2⟩
      rw [HI.out.1, HT.out]; simp
/-- the three errors that come from the numbers -/
theorem make_cases (n m s : Int) : (sideT n = false ∧ makeC n m s = 8) ∨ (sideT n = true ∧ sideT m = false ∧ makeC n m s = 8) ∨ (sideT n = true ∧ sideT m = true ∧ s < 0 ∧ makeC n m s = 2) ∨ (sideT n = true ∧ sideT m = true ∧ 14 < s ∧ makeC n m s = 2) ∨ (sideT n = true ∧ sideT m = true ∧ (0 ≤ s ∧ s ≤ 14) ∧ makeC n m s = 0) := by
  unfold makeC
  cases hn : sideT n <;> cases hm : sideT m
  · left; simp
  · left; simp
  · right; left; simp
  · right; right
    by_cases h0 : s < 0
    · left; simp [h0]
    · by_cases h1 : 14 < s
      · right; left; simp [h1]
      · right; right; simp [h0, h1]; omega
theorem rlinear_any (n m s : Int) (w : World) : Calls Tryd.prog 20 #[.int .i64 n, .int .i64 m, .int .i64 s] w (TabPost (linT n m s) (makeC n m s) w) := by
  have hno : ∀ c, makeC n m s = c → c ≠ 0 → linT n m s = [] := fun c h h0 => by unfold linT; rw [h, if_neg h0]
  rcases make_cases n m s with ⟨h1, hc⟩ | ⟨h1, h2, hc⟩ | ⟨h1, h2, h3, hc⟩ | ⟨h1, h2, h3, hc⟩ | ⟨h1, h2, h3, hc⟩
  · have HT := Lib.hid (hno 8 hc (by decide))
    have H1 := Lib.hid h1
    rw [hc]
    clear hc h1 hno
    go_enter Tryd.func20, Tryd.ntmps20
    go_wp2_with fail
    refine (rside_is H1.out _).mono ?_; rintro e w1 ⟨rfl, rfl⟩
    go_wp2_with fail
    go_returns
    exact tab_nil HT.out (bref _)
  · have HT := Lib.hid (hno 8 hc (by decide))
    have H1 := Lib.hid h1
    have H2 := Lib.hid h2
    rw [hc]
    clear hc h1 h2 hno
    go_enter Tryd.func20, Tryd.ntmps20
    go_wp2_with fail
    refine (rside_is H1.out _).mono ?_; rintro e w1 ⟨rfl, rfl⟩
    go_wp2_with fail
    refine (rside_is H2.out _).mono ?_; rintro e w1 ⟨rfl, rfl⟩
    go_wp2_with fail
    go_returns
    exact tab_nil HT.out (bref _)
  · have HT := Lib.hid (hno 2 hc (by decide))
    have H1 := Lib.hid h1
    have H2 := Lib.hid h2
    rw [hc]
    clear hc h1 h2 hno
    go_enter Tryd.func20, Tryd.ntmps20
    go_wp2_with fail
    refine (rside_is H1.out _).mono ?_; rintro e w1 ⟨rfl, rfl⟩
    go_wp2_with fail
    refine (rside_is H2.out _).mono ?_; rintro e w1 ⟨rfl, rfl⟩
    go_wp2_with fail
    go_returns
    exact tab_nil HT.out (bref _)
  · have HT := Lib.hid (hno 2 hc (by decide))
    have H1 := Lib.hid h1
    have H2 := Lib.hid h2
    rw [hc]
    clear hc h1 h2 hno
    go_enter Tryd.func20, Tryd.ntmps20
    go_wp2_with fail
    refine (rside_is H1.out _).mono ?_; rintro e w1 ⟨rfl, rfl⟩
    go_wp2_with fail
    refine (rside_is H2.out _).mono ?_; rintro e w1 ⟨rfl, rfl⟩
    go_wp2_with fail
    go_returns
    exact tab_nil HT.out (bref _)
  · rw [hc]
    exact rlinear_in n m s w (sideT_t.1 h1) (sideT_t.1 h2) h3
end Go.Proofs.YtjmdpebocchdhaaDoor
