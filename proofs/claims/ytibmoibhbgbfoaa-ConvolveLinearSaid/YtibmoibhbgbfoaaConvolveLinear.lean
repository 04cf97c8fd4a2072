/- For every list of numbers the statement ConvolveLinear returns true: without shifting and clamping the sum of two planes has the sum of the convolutions, and the kernel 1 changes nothing. No condition. -/
import Derived.Test.YtibmoibhbgbfoaaCSane
import Derived.Test.YtibmoibhbgbfoaaTreeKit
import Derived.Test.YtibmoibhbgbfoaaCKit
import Derived.Test.YtibmoibhbgbfoaaLinKit
import Derived.Test.YtibmoibhbgbfoaaHeldL
import Derived.Test.YtibmoibhbgbfoaaCLinPlain
namespace Go.Proofs.Ytibmoibhbgbfoaa
open Go.ChangeShapes Go.WideShapes Go.ChangeAt Go.RowKit
set_option linter.unusedVariables false
set_option linter.unusedSimpArgs false

/-- what a round reads -/
abbrev LnS (pb qb sb : Nat) (u v t : Value) (w : World) : Prop := w.cell? ⟨pb, 3, none⟩ = some u ∧ w.cell? ⟨qb, 3, none⟩ = some v ∧ w.cell? ⟨sb, 3, none⟩ = some t
theorem ln_of {W : World} {p : Nat} {a : Option Addr} {cap : Nat} {xs : List Int} {pb qb sb : Nat} {u0 u1 u2 vP vQ vR : Value} {l : List Th} {B : Nat} {rows : List Rw} {w : World} (h : Lr W p a cap xs (.box sb u0 u1 u2 vR :: .box qb u0 u1 u2 vQ :: .box pb u0 u1 u2 vP :: l) B rows w) : LnS pb qb sb vP vQ vR w :=
  ⟨(h.st.en.box pb (v0 := u0) (v1 := u1) (v2 := u2) (v3 := vP) (by simp)).2.2.2, (h.st.en.box qb (v0 := u0) (v1 := u1) (v2 := u2) (v3 := vQ) (by simp)).2.2.2, (h.st.en.box sb (v0 := u0) (v1 := u1) (v2 := u2) (v3 := vR) (by simp)).2.2.2⟩
set_option maxRecDepth 100000 in
set_option maxHeartbeats 8000000 in
theorem linear_walk (xs : List Int) (a0 : Option Addr) (cap : Nat) (W : World) (hs : SliceIs W a0 xs) (hf : Fits xs) (hl : xs.length ≤ 9223372036854775807) :
    Calls Try.prog 6 #[.slice a0 xs.length cap] W (TestPost true W) := by
  have hs' := Lib.hid hs
  have hf' := Lib.hid hf
  have hl' := Lib.hid hl
  clear hs hf hl
  obtain ⟨j0, hj, hj0, hj1, hj2⟩ := info_parts infoI
  have hj' := Lib.hid hj
  have hj0' := Lib.hid hj0
  have hj1' := Lib.hid hj1
  have hj2' := Lib.hid hj2
  clear hj hj0 hj1 hj2
  go_enter Try.func6, Try.ntmps6
  go_wp2_with fail
  refine (new_any a0 cap xs _ hs'.out hf'.out hl'.out).mono ?_; rintro e w1 ⟨rfl, hT⟩
  have hS := Lib.hid (St.start hT)
  obtain ⟨p, ep⟩ : ∃ x, W.heap.size = x := ⟨_, rfl⟩
  rw [ep] at hS
  (try simp only [ep])
  clear hT
  go_wp2_with fail
  (try simp only [ep])
  clear ep
  refine (next_some W p a0 cap xs _ _ hS.out.tape (by omega) (by omega)).mono ?_; rintro e w2 ⟨m5, rfl, hm5, hT, hg⟩
  replace hS := Lib.hid (hS.out.draw hT hg)
  clear hT hg
  go_wp2_with fail
  refine (next_some W p a0 cap xs _ _ hS.out.tape (by omega) (by omega)).mono ?_; rintro e w3 ⟨m4, rfl, hm4, hT, hg⟩
  replace hS := Lib.hid (hS.out.draw hT hg)
  clear hT hg
  obtain ⟨c, ec⟩ : ∃ x, 1 + m5 = x := ⟨_, rfl⟩
  obtain ⟨h, eh⟩ : ∃ x, 1 + m4 = x := ⟨_, rfl⟩
  have hc : 1 ≤ c ∧ c ≤ 5 := by omega
  have hh : 1 ≤ h ∧ h ≤ 4 := by omega



  go_wp2_with fail
  (try simp only [ec, eh])
  clear ec eh hm5 hm4
  have HC := Lib.hid hc
  have HH := Lib.hid hh
  have hp3 := Lib.hid hS.out.tape.lt
  have hT3 := hS.out.tape
  have H0 : Hid (WtIn W p a0 cap xs w3 (.slice none 0 0) [] w3 ∧ ∀ v ∈ ([] : List Int), 0 ≤ v ∧ v ≤ 4) := Lib.hid ⟨⟨hT3, gref w3 _, OwnL.nil _ _, fun v hv => by simp at hv⟩, fun v hv => by simp at hv⟩
  clear hT3 hc hh
  go_loopw [6, 7] (fun v i wr => ∃ (k : Nat) (K : List Int), k ≤ 9 ∧ i = .int .i64 k ∧ Hid (K.length = k) ∧ Hid (WtIn W p a0 cap xs w3 v K wr ∧ ∀ v ∈ K, 0 ≤ v ∧ v ≤ 4)) (fun _ i _ => 9 - (intOf i).toNat)
  case atStart => exact ⟨0, [], by omega, rfl, Lib.hid rfl, H0⟩
  case round =>
    clear H0
    obtain ⟨k, K, hk, rfl, hKl, HI⟩ := hrel
    by_cases hlt : k < 9
    · have hkI : (k : Int) < 9 := by omega
      go_wp2_with fail
      refine (next_some W p a0 cap xs _ _ HI.out.1.1 (by omega) (by omega)).mono ?_; rintro e w4 ⟨x, rfl, hx, hT, hg⟩
      have HI1 := Lib.hid (HI.out.1.call hp3.out.1 hT hg)
      have HKv := Lib.hid HI.out.2
      clear hT hg HI
      have hz := HI1.out.2.1.size
      have hz3 := Lib.hid (show ∀ o : Obj, w3.heap.size ≤ (w4.alloc o).heap.size from fun o => by simp; omega)
      have hKM := Lib.hid (show K.length + 1 ≤ maxLen ∧ (K.length + 1) * 8 ≤ 140737488355328 by rw [hKl.out]; unfold maxLen; omega)
      clear hz
      go_wp2_with (at_builtin; refine wpList_append_lies _ rfl _ _ _ rfl w3.heap.size 3 j0 (.int .i64 0) 1 8 Try.underlying22 hj'.out hj0'.out hj1'.out hj2'.out rfl (by decide) u6 K.length (ints K) rfl ((HI1.out.alloc _).2.2.1) ⟨w4.heap.size, 0, none⟩ 1 1 [.int .i64 x] rfl rfl (World.news_of_block (heap_alloc_new w4 _)) (by intro u hu; simp at hu; subst hu; rfl) (by decide) hKM.out.1 hKM.out.2 (hz3.out _) (w4.heap.size + 1) (by simp) ?_; intro g gc wB hown hgrow hat hlB)
      have HF := Lib.hid ((HI1.out.alloc _).app hp3.out.1 hp3.out.2.2 (by omega) hown hgrow)
      have HF2 := Lib.hid (And.intro HF.out (show ∀ v ∈ K ++ [x], 0 ≤ v ∧ v ≤ 4 from fun v hv => by
        rcases List.mem_append.1 hv with h1 | h1
        · exact HKv.out v h1
        · rw [List.mem_singleton] at h1; omega))
      go_roundw
      case rel => exact ⟨k + 1, K ++ [x], by omega, by go_num, Lib.hid (by rw [List.length_append, hKl.out]; rfl), HF2⟩
      case measure => simp [intOf]; omega
    · obtain rfl : k = 9 := by omega
      have hKp := HI.out.1.2.2.1
      obtain ⟨gK, cK, hv6, hPK⟩ : ∃ gK cK, u6 = .slice (some ⟨gK, 0, none⟩) 9 cK ∧ PixAt w3.heap.size wr gK cK K := by
        rcases hKp.2 with ⟨e, hn⟩ | ⟨g, cc, cur, e, _⟩
        · rw [hKl.out] at hn; omega
        · rw [hKl.out] at e
          refine ⟨g, cc, e, ?_⟩
          unfold PixAt; rw [hKl.out, ← e]
          have := hKp; unfold OwnL at this; rw [hKl.out] at this; exact this
      subst hv6
      replace hS := Lib.hid (hS.out.drawn hPK HI.out.1.1 HI.out.1.2.1)
      have HK := Lib.hid HI.out.2
      clear hKp hPK HI hk hlt hp3
      go_wp2_with fail
      have hS1 := ((hS.out.new (.int .i64 c) (.int .i64 h) (.int .i64 1000) (.slice none 0 0) 35).new (.int .i64 c) (.int .i64 h) (.int .i64 1000) (.slice none 0 0) 35).new (.int .i64 c) (.int .i64 h) (.int .i64 1000) (.slice none 0 0) 35
      rw [World.size_alloc, World.size_alloc] at hS1
      obtain ⟨pb, epb⟩ : ∃ x, wr.heap.size = x := ⟨_, rfl⟩
      obtain ⟨qb, eqb⟩ : ∃ x, pb + 1 = x := ⟨_, rfl⟩
      obtain ⟨sb, esb⟩ : ∃ x, qb + 1 = x := ⟨_, rfl⟩
      obtain ⟨w5, ew5⟩ : ∃ x, ((wr.alloc (.cells #[.int .i64 c, .int .i64 h, .int .i64 1000, .slice none 0 0] 35)).alloc (.cells #[.int .i64 c, .int .i64 h, .int .i64 1000, .slice none 0 0] 35)).alloc (.cells #[.int .i64 c, .int .i64 h, .int .i64 1000, .slice none 0 0] 35) = x := ⟨_, rfl⟩
      rw [ew5, epb, eqb, esb] at hS1
      simp only [ew5, epb, eqb, esb]
      replace hS := Lib.hid hS1
      clear hS1 ew5 epb eqb esb
      obtain ⟨N, eN⟩ : ∃ N : Nat, c * h = N := ⟨(c * h).toNat, by have := Int.mul_nonneg (show 0 ≤ c by have := HC.out; omega) (show 0 ≤ h by have := HH.out; omega); omega⟩
      have hN : Hid (1 ≤ N ∧ N ≤ 20) := Lib.hid (by
        have j1 : c * h ≤ 5 * 4 := Int.mul_le_mul HC.out.2 HH.out.2 (by have := HH.out; omega) (by omega)
        have j2 : 1 * 1 ≤ c * h := Int.mul_le_mul HC.out.1 HH.out.1 (by omega) (by have := HC.out; omega)
        omega)
      have wN : wrap64 (c * h) = N := by rw [eN]; exact wrap_in _ (by omega) (by have := hN.out; omega)
      have EN := Lib.hid eN
      clear eN
      obtain ⟨B, eB⟩ : ∃ x, w5.heap.size = x := ⟨_, rfl⟩
      have hL0 := (((Lr.start hS.out).nilrow).nilrow).nilrow
      rw [eB] at hL0
      replace hS := Lib.hid hL0
      clear hL0 eB
      have e9 : (((9 : Nat)) : Int) = 9 := rfl
      rw [e9]
      clear e9
      go_loopw [11] (fun i wr2 => ∃ (k : Nat) (vP vQ vR : Value) (P Q R : List Int), k ≤ N ∧ i = .int .i64 k ∧ Hid (P.length = k ∧ Q.length = k ∧ R.length = k ∧ (∀ j : Nat, R.getD j 0 = P.getD j 0 + Q.getD j 0) ∧ (∀ x ∈ P, 0 ≤ x ∧ x < 400) ∧ (∀ x ∈ Q, 0 ≤ x ∧ x < 400)) ∧ Hid (Lr W p a0 cap xs [.box sb (.int .i64 c) (.int .i64 h) (.int .i64 1000) vR, .box qb (.int .i64 c) (.int .i64 h) (.int .i64 1000) vQ, .box pb (.int .i64 c) (.int .i64 h) (.int .i64 1000) vP, .pix gK cK K] B [⟨vP, P⟩, ⟨vQ, Q⟩, ⟨vR, R⟩] wr2)) (fun i _ => N - (intOf i).toNat)
      case atStart => exact ⟨0, _, _, _, [], [], [], by omega, rfl, Lib.hid ⟨rfl, rfl, rfl, fun j => by simp, by simp, by simp⟩, hS⟩
      case round =>
        clear hS
        obtain ⟨k, vP, vQ, vR, P, Q, R, hk, rfl, HL, hS⟩ := hrel
        by_cases hlt : k < N
        · have hkI : (k : Int) < N := by omega
          have hlt' := Lib.hid hlt
          have q20 : wrap64 ((k : Int) + 1) = (k : Int) + 1 := wrap_in _ (by omega) (by have := hN.out; omega)
          go_wp2_with fail
          refine (next_some W p a0 cap xs _ _ hS.out.st.tape (by omega) (by omega)).mono ?_; rintro e w6 ⟨x, rfl, hx, hT, hg⟩
          replace hS := Lib.hid (hS.out.draw hT hg)
          have HXx := Lib.hid hx
          clear hT hg hx
          go_wp2_with fail
          refine (next_some W p a0 cap xs _ _ hS.out.st.tape (by omega) (by omega)).mono ?_; rintro e w7 ⟨y, rfl, hy, hT, hg⟩
          replace hS := Lib.hid (hS.out.draw hT hg)
          have HYy := Lib.hid hy
          clear hT hg hy
          go_upto_region 14 with fail
          obtain ⟨z, ez⟩ : ∃ z, x + y = z := ⟨_, rfl⟩
          have wz : wrap64 (x + y) = z := by rw [ez]; exact wrap_in _ (by have := HXx.out; have := HYy.out; omega) (by have := HXx.out; have := HYy.out; omega)
          have HL2 := Lib.hid (show Hid ((P ++ [x]).length = k + 1 ∧ (Q ++ [y]).length = k + 1 ∧ (R ++ [z]).length = k + 1 ∧ (∀ j : Nat, (R ++ [z]).getD j 0 = (P ++ [x]).getD j 0 + (Q ++ [y]).getD j 0) ∧ (∀ v ∈ P ++ [x], 0 ≤ v ∧ v < 400) ∧ (∀ v ∈ Q ++ [y], 0 ≤ v ∧ v < 400)) from Lib.hid ⟨by rw [List.length_append, HL.out.1]; rfl, by rw [List.length_append, HL.out.2.1]; rfl, by rw [List.length_append, HL.out.2.2.1]; rfl, sum_more HL.out.1 HL.out.2.1 HL.out.2.2.1 HL.out.2.2.2.1 ez, bound_more HL.out.2.2.2.2.1 HXx.out, bound_more HL.out.2.2.2.2.2 HYy.out⟩)
          clear ez
          have hKM := Lib.hid (show k + 1 ≤ maxLen ∧ (k + 1) * 8 ≤ 140737488355328 by have := hN.out; unfold maxLen; omega)
          replace hS := Lib.hid (hS.out.call (bdrewN (bref _) 1))
          have hS0 : Hid (Lr W p a0 cap xs [.box sb (.int .i64 c) (.int .i64 h) (.int .i64 1000) vR, .box qb (.int .i64 c) (.int .i64 h) (.int .i64 1000) vQ, .box pb (.int .i64 c) (.int .i64 h) (.int .i64 1000) vP, .pix gK cK K] B [⟨vP, P⟩, ⟨vQ, Q⟩, ⟨vR, R⟩] (World.drew w7)) := hS
          haveI : Nonempty (In (LnS pb qb sb vP vQ vR)) := ⟨⟨_, ln_of hS0.out⟩⟩
          have c0 : ∀ s : In (LnS pb qb sb vP vQ vR), s.w.cell? ⟨pb, 3, none⟩ = some vP := fun s => s.h.1
          have c1 : ∀ s : In (LnS pb qb sb vP vQ vR), s.w.cell? ⟨qb, 3, none⟩ = some vQ := fun s => s.h.2.1
          have c2 : ∀ s : In (LnS pb qb sb vP vQ vR), s.w.cell? ⟨sb, 3, none⟩ = some vR := fun s => s.h.2.2
          refine wp_region_noPanic ?_
          refine wp_region_L (S := InW (LnS pb qb sb vP vQ vR)) [18, 20, 22] (by kernel_rfl) ⟨⟨World.drew _, ln_of hS0.out⟩, rfl⟩ (fun hHeld => ?_)
          obtain ⟨wd, ewd⟩ : ∃ wd, World.drew w7 = wd := ⟨_, rfl⟩
          clear hS
          have hS := hS0
          clear hS0
          rw [ewd] at hS hHeld
          simp only [ewd]
          clear ewd
          refine held_runL 3 0 20 rfl (by decide) (by kernel_rfl) (by kernel_rfl) (by kernel_rfl) (by kernel_rfl) (by kernel_rfl) (by kernel_rfl) (fun _ _ _ _ _ h => h) hHeld ?_
          simp only [List.take_succ_cons, List.take_zero, List.drop_succ_cons, List.drop_zero]
          repeat (go_big_quiet_step (fail))
          refine wpQuiet_nil ?_
          (try simp only [Act.put, List.getElem_cons_succ, List.getElem_cons_zero, List.setIfInBounds_toArray, List.set_cons_zero, List.set_cons_succ])
          refine held_runL 3 5 17 rfl (by decide) (by kernel_rfl) (by kernel_rfl) (by kernel_rfl) (by kernel_rfl) (by kernel_rfl) (by kernel_rfl) (fun _ _ _ _ _ h => h) hHeld ?_
          simp only [List.take_succ_cons, List.take_zero, List.drop_succ_cons, List.drop_zero]
          repeat (go_big_quiet_step (fail))
          refine wpQuiet_nil ?_
          (try simp only [Act.put, List.getElem_cons_succ, List.getElem_cons_zero, List.setIfInBounds_toArray, List.set_cons_zero, List.set_cons_succ])
          refine held_runL 5 10 12 rfl (by decide) (by kernel_rfl) (by kernel_rfl) (by kernel_rfl) (by kernel_rfl) (by kernel_rfl) (by kernel_rfl) (fun _ _ _ _ _ h => h) hHeld ?_
          simp only [List.take_succ_cons, List.take_zero, List.drop_succ_cons, List.drop_zero]
          repeat (go_big_quiet_step (fail))
          refine wpQuiet_nil ?_
          (try simp only [Act.put, List.getElem_cons_succ, List.getElem_cons_zero, List.setIfInBounds_toArray, List.set_cons_zero, List.set_cons_succ])
          rw [wz]
          clear wz c0 c1 c2 hkI hlt hk
          refine wp_dagL (fun F hto hfr => ?_)
          have N3_4_8_9_15_16 : Hid (∀ (t1 : Nat) (g1 d1 : Nat) (t2 : Nat) (g2 d2 : Nat) (t3 : Nat) (g3 d3 : Nat) (wx : World), Hid (Lr W p a0 cap xs [.box sb (.int .i64 c) (.int .i64 h) (.int .i64 1000) vR, .box qb (.int .i64 c) (.int .i64 h) (.int .i64 1000) vQ, .box pb (.int .i64 c) (.int .i64 h) (.int .i64 1000) vP, .pix gK cK K] B [⟨.slice (some ⟨g3, 0, none⟩) (k + 1) d3, R ++ [z]⟩, ⟨.slice (some ⟨t3, 0, none⟩) 1 1, [z]⟩, ⟨.slice (some ⟨g2, 0, none⟩) (k + 1) d2, Q ++ [y]⟩, ⟨.slice (some ⟨t2, 0, none⟩) 1 1, [y]⟩, ⟨.slice (some ⟨g1, 0, none⟩) (k + 1) d1, P ++ [x]⟩, ⟨.slice (some ⟨t1, 0, none⟩) 1 1, [x]⟩] wx) → F 5 #[true, true, true, true, true, true, true, true, true, true, true, true, true, true, true, true, true, true, false, false, false, false, false] { tmps := #[Value.slice a0 xs.length cap, undef, Value.bool false, Value.pointer (some { block := p, off := 0 }), Value.int IntKind.i64 c, Value.int IntKind.i64 h, Value.slice (some { block := gK, off := 0 }) 9 cK, Value.int IntKind.i64 9, Value.pointer (some { block := pb, off := 0 }), Value.pointer (some { block := qb, off := 0 }), Value.pointer (some { block := sb, off := 0 }), Value.int IntKind.i64 ↑k, Value.int IntKind.i64 x, Value.int IntKind.i64 y, undef, undef, undef, undef, undef, undef, undef, undef, undef, undef, undef, Value.slice a0 xs.length cap, Value.pointer (some { block := p, off := 0 }), Value.pointer (some { block := p, off := 0 }), Value.int IntKind.i64 m5, Value.int IntKind.i64 c, Value.pointer (some { block := p, off := 0 }), Value.int IntKind.i64 m4, Value.int IntKind.i64 h, Value.int IntKind.i64 9, Value.bool false, u35, u36, u37, u38, u39, u40, u41, Value.int IntKind.i64 c, Value.int IntKind.i64 h, Value.agg #[Value.int IntKind.i64 c, Value.int IntKind.i64 h, Value.int IntKind.i64 1000, Value.slice none 0 0], Value.int IntKind.i64 c, Value.int IntKind.i64 h, Value.agg #[Value.int IntKind.i64 c, Value.int IntKind.i64 h, Value.int IntKind.i64 1000, Value.slice none 0 0], Value.agg #[Value.int IntKind.i64 c, Value.int IntKind.i64 h, Value.int IntKind.i64 1000, Value.slice none 0 0], Value.int IntKind.i64 ↑k, Value.int IntKind.i64 c, Value.int IntKind.i64 h, Value.int IntKind.i64 ↑N, Value.bool true, u54, u55, Value.pointer (some { block := p, off := 0 }), Value.int IntKind.i64 x, Value.pointer (some { block := p, off := 0 }), Value.int IntKind.i64 y, Value.pointer (some { block := pb, off := 3 }), vP, Value.int IntKind.i64 x, .slice (some ⟨t1, 0, none⟩) 1 1, .slice (some ⟨g1, 0, none⟩) (k + 1) d1, Value.pointer (some { block := qb, off := 3 }), vQ, Value.int IntKind.i64 y, .slice (some ⟨t2, 0, none⟩) 1 1, .slice (some ⟨g2, 0, none⟩) (k + 1) d2, Value.pointer (some { block := sb, off := 3 }), vR, Value.int IntKind.i64 x, Value.int IntKind.i64 y, Value.int IntKind.i64 z, .slice (some ⟨t3, 0, none⟩) 1 1, .slice (some ⟨g3, 0, none⟩) (k + 1) d3, .pointer (some ⟨pb, 3, none⟩), u78, u79, undef, undef, undef, undef, undef, undef, undef, undef, undef, undef, undef, undef, undef, undef, undef, undef, undef, undef, undef, undef, undef, undef, undef, undef, undef, undef, undef, undef, undef, undef, undef, undef, undef, undef, undef, undef, undef, undef, undef, undef, undef, undef, undef, undef, undef, undef, undef, undef, undef, undef, undef, undef, undef, undef, undef, undef, undef, undef, undef, undef, undef, undef, undef, undef, undef, undef, undef, undef, undef, undef, undef, undef, undef, undef, undef, undef, undef, undef, undef, undef, undef, undef, undef, undef, undef, undef, undef, undef, undef, undef, undef, undef, undef, undef, undef, undef, undef, undef, undef, undef, undef, undef, undef, undef, undef, undef, undef, undef, undef], defers := [] } wx) := Lib.hid (by
            intro t1 g1 d1 t2 g2 d2 t3 g3 d3 wx  hS
            refine hto.out _ _ _ _ ?_
            refine wpAnyL_ready (rs := [18]) (by kernel_rfl) (by simp) (AllReadyL.cons rfl (fun KQ hKQ => ?_) AllReadyL.nil)
            replace hS := Lib.hid (hS.out.pullth 2 rfl rfl)
            obtain ⟨⟨zz0, zz1, zz2, zz3⟩, zf0, zf1, zf2, zf3⟩ := (show Box4 _ _ _ _ _ _ from hS.out.st.en.ok _ (List.mem_cons_self ..))
            have hSn := hS.out.set3 (.slice (some ⟨g1, 0, none⟩) (k + 1) d1)
            go_simp
            (try go_wp2_with fail)
            obtain ⟨wo18, ew⟩ : ∃ x, wx.setCell ⟨pb, 3, none⟩ (.slice (some ⟨g1, 0, none⟩) (k + 1) d1) = x := ⟨_, rfl⟩
            rw [ew] at hSn
            simp only [ew]
            replace hS := Lib.hid hSn
            clear hSn ew zz0 zz1 zz2 zz3 zf0 zf1 zf2 zf3
            refine hKQ.out _ _ (fun h => st_no (by kernel_rfl) h) (fun _ => ?_)
            clear hKQ KQ
            (try simp only [Act.put, List.getElem_cons_succ, List.getElem_cons_zero, List.setIfInBounds_toArray, List.set_cons_zero, List.set_cons_succ])
            refine wpAnyL_ready (rs := [19]) (by kernel_rfl) (by simp) (AllReadyL.cons rfl (fun KQ hKQ => ?_) AllReadyL.nil)
            go_simp
            (try go_wp2_with fail)
            refine hKQ.out _ _ (fun h => st_no (by kernel_rfl) h) (fun _ => ?_)
            clear hKQ KQ
            (try simp only [Act.put, List.getElem_cons_succ, List.getElem_cons_zero, List.setIfInBounds_toArray, List.set_cons_zero, List.set_cons_succ])
            refine wpAnyL_ready (rs := [20]) (by kernel_rfl) (by simp) (AllReadyL.cons rfl (fun KQ hKQ => ?_) AllReadyL.nil)
            replace hS := Lib.hid (hS.out.pullth 2 rfl rfl)
            obtain ⟨⟨zz0, zz1, zz2, zz3⟩, zf0, zf1, zf2, zf3⟩ := (show Box4 _ _ _ _ _ _ from hS.out.st.en.ok _ (List.mem_cons_self ..))
            have hSn := hS.out.set3 (.slice (some ⟨g2, 0, none⟩) (k + 1) d2)
            go_simp
            (try go_wp2_with fail)
            obtain ⟨wo20, ew⟩ : ∃ x, wo18.setCell ⟨qb, 3, none⟩ (.slice (some ⟨g2, 0, none⟩) (k + 1) d2) = x := ⟨_, rfl⟩
            rw [ew] at hSn
            simp only [ew]
            replace hS := Lib.hid hSn
            clear hSn ew zz0 zz1 zz2 zz3 zf0 zf1 zf2 zf3
            refine hKQ.out _ _ (fun h => st_no (by kernel_rfl) h) (fun _ => ?_)
            clear hKQ KQ
            (try simp only [Act.put, List.getElem_cons_succ, List.getElem_cons_zero, List.setIfInBounds_toArray, List.set_cons_zero, List.set_cons_succ])
            refine wpAnyL_ready (rs := [21]) (by kernel_rfl) (by simp) (AllReadyL.cons rfl (fun KQ hKQ => ?_) AllReadyL.nil)
            go_simp
            (try go_wp2_with fail)
            refine hKQ.out _ _ (fun h => st_no (by kernel_rfl) h) (fun _ => ?_)
            clear hKQ KQ
            (try simp only [Act.put, List.getElem_cons_succ, List.getElem_cons_zero, List.setIfInBounds_toArray, List.set_cons_zero, List.set_cons_succ])
            refine wpAnyL_ready (rs := [22]) (by kernel_rfl) (by simp) (AllReadyL.cons rfl (fun KQ hKQ => ?_) AllReadyL.nil)
            replace hS := Lib.hid (hS.out.pullth 2 rfl rfl)
            obtain ⟨⟨zz0, zz1, zz2, zz3⟩, zf0, zf1, zf2, zf3⟩ := (show Box4 _ _ _ _ _ _ from hS.out.st.en.ok _ (List.mem_cons_self ..))
            have hSn := hS.out.set3 (.slice (some ⟨g3, 0, none⟩) (k + 1) d3)
            go_simp
            (try go_wp2_with fail)
            obtain ⟨wo22, ew⟩ : ∃ x, wo20.setCell ⟨sb, 3, none⟩ (.slice (some ⟨g3, 0, none⟩) (k + 1) d3) = x := ⟨_, rfl⟩
            rw [ew] at hSn
            simp only [ew]
            replace hS := Lib.hid hSn
            clear hSn ew zz0 zz1 zz2 zz3 zf0 zf1 zf2 zf3
            refine hKQ.out _ _ (fun h => st_no (by kernel_rfl) h) (fun _ => ?_)
            clear hKQ KQ
            (try simp only [Act.put, List.getElem_cons_succ, List.getElem_cons_zero, List.setIfInBounds_toArray, List.set_cons_zero, List.set_cons_succ])
            refine wpAnyL_done (by kernel_rfl) ?_ _
            refine NoPanic.normal ?_
            have hS2 := ((((((hS.out.pull 5 rfl rfl).drop1).pull 3 rfl rfl).drop1).pull 1 rfl rfl).drop1)
            have hS3 := (hS2.pull 1 rfl rfl).pull 2 rfl rfl
            have hfin := Lib.hid hS3
            clear hS2 hS3
            go_wp2_with fail
            go_roundw
            case rel => exact ⟨k + 1, _, _, _, _, _, _, hlt'.out, by (try rw [q20]); exact congrArg (Value.int .i64) (by omega), HL2.out, hfin⟩
            case measure => (try rw [q20]); exact down_by hlt'.out)
          have N3_4_8_9_15 : Hid (∀ (t1 : Nat) (g1 d1 : Nat) (t2 : Nat) (g2 d2 : Nat) (t3 : Nat) (wx : World), Hid (Lr W p a0 cap xs [.box sb (.int .i64 c) (.int .i64 h) (.int .i64 1000) vR, .box qb (.int .i64 c) (.int .i64 h) (.int .i64 1000) vQ, .box pb (.int .i64 c) (.int .i64 h) (.int .i64 1000) vP, .pix gK cK K] B [⟨.slice (some ⟨t3, 0, none⟩) 1 1, [z]⟩, ⟨.slice (some ⟨g2, 0, none⟩) (k + 1) d2, Q ++ [y]⟩, ⟨.slice (some ⟨t2, 0, none⟩) 1 1, [y]⟩, ⟨.slice (some ⟨g1, 0, none⟩) (k + 1) d1, P ++ [x]⟩, ⟨.slice (some ⟨t1, 0, none⟩) 1 1, [x]⟩, ⟨vR, R⟩] wx) → F 6 #[true, true, true, true, true, true, true, true, true, true, true, true, true, true, true, true, false, true, false, false, false, false, false] { tmps := #[Value.slice a0 xs.length cap, undef, Value.bool false, Value.pointer (some { block := p, off := 0 }), Value.int IntKind.i64 c, Value.int IntKind.i64 h, Value.slice (some { block := gK, off := 0 }) 9 cK, Value.int IntKind.i64 9, Value.pointer (some { block := pb, off := 0 }), Value.pointer (some { block := qb, off := 0 }), Value.pointer (some { block := sb, off := 0 }), Value.int IntKind.i64 ↑k, Value.int IntKind.i64 x, Value.int IntKind.i64 y, undef, undef, undef, undef, undef, undef, undef, undef, undef, undef, undef, Value.slice a0 xs.length cap, Value.pointer (some { block := p, off := 0 }), Value.pointer (some { block := p, off := 0 }), Value.int IntKind.i64 m5, Value.int IntKind.i64 c, Value.pointer (some { block := p, off := 0 }), Value.int IntKind.i64 m4, Value.int IntKind.i64 h, Value.int IntKind.i64 9, Value.bool false, u35, u36, u37, u38, u39, u40, u41, Value.int IntKind.i64 c, Value.int IntKind.i64 h, Value.agg #[Value.int IntKind.i64 c, Value.int IntKind.i64 h, Value.int IntKind.i64 1000, Value.slice none 0 0], Value.int IntKind.i64 c, Value.int IntKind.i64 h, Value.agg #[Value.int IntKind.i64 c, Value.int IntKind.i64 h, Value.int IntKind.i64 1000, Value.slice none 0 0], Value.agg #[Value.int IntKind.i64 c, Value.int IntKind.i64 h, Value.int IntKind.i64 1000, Value.slice none 0 0], Value.int IntKind.i64 ↑k, Value.int IntKind.i64 c, Value.int IntKind.i64 h, Value.int IntKind.i64 ↑N, Value.bool true, u54, u55, Value.pointer (some { block := p, off := 0 }), Value.int IntKind.i64 x, Value.pointer (some { block := p, off := 0 }), Value.int IntKind.i64 y, Value.pointer (some { block := pb, off := 3 }), vP, Value.int IntKind.i64 x, .slice (some ⟨t1, 0, none⟩) 1 1, .slice (some ⟨g1, 0, none⟩) (k + 1) d1, Value.pointer (some { block := qb, off := 3 }), vQ, Value.int IntKind.i64 y, .slice (some ⟨t2, 0, none⟩) 1 1, .slice (some ⟨g2, 0, none⟩) (k + 1) d2, Value.pointer (some { block := sb, off := 3 }), vR, Value.int IntKind.i64 x, Value.int IntKind.i64 y, Value.int IntKind.i64 z, .slice (some ⟨t3, 0, none⟩) 1 1, u76, .pointer (some ⟨pb, 3, none⟩), u78, u79, undef, undef, undef, undef, undef, undef, undef, undef, undef, undef, undef, undef, undef, undef, undef, undef, undef, undef, undef, undef, undef, undef, undef, undef, undef, undef, undef, undef, undef, undef, undef, undef, undef, undef, undef, undef, undef, undef, undef, undef, undef, undef, undef, undef, undef, undef, undef, undef, undef, undef, undef, undef, undef, undef, undef, undef, undef, undef, undef, undef, undef, undef, undef, undef, undef, undef, undef, undef, undef, undef, undef, undef, undef, undef, undef, undef, undef, undef, undef, undef, undef, undef, undef, undef, undef, undef, undef, undef, undef, undef, undef, undef, undef, undef, undef, undef, undef, undef, undef, undef, undef, undef, undef, undef, undef, undef, undef, undef, undef], defers := [] } wx) := Lib.hid (by
            intro t1 g1 d1 t2 g2 d2 t3 wx  hS
            refine hto.out _ _ _ _ ?_
            refine wpAnyL_ready (rs := [16]) (by kernel_rfl) (by simp) (AllReadyL.cons rfl (fun KQ hKQ => ?_) AllReadyL.nil)
            replace hS := Lib.hid (hS.out.pull 5 rfl rfl)
            have hnews : ∀ j u, ([.int .i64 z] : List Value)[j]? = some u → wx.cell? ((⟨t3, 0, none⟩ : Addr).add j) = some u := one_news (hS.out.ro.ok ⟨.slice (some ⟨t3, 0, none⟩) 1 1, [z]⟩ (by simp))
            refine Eq.mpr (if_pos (by kernel_rfl)) ?_
            refine wp_append_lies _ (.tmp 71) (.tmp 75) 22 rfl B 3 j0 (.int .i64 0) 1 8 Try.underlying22 hj'.out hj0'.out hj1'.out hj2'.out rfl (by decide) vR k (ints R) rfl (own_at HL.out.2.2.1 (hS.out.ro.ok ⟨vR, R⟩ (by simp))) ⟨t3, 0, none⟩ 1 1 [.int .i64 z] rfl rfl hnews (by intro u hu; simp at hu; subst hu; rfl) (by decide) hKM.out.1 hKM.out.2 hS.out.lo.2.2 wx.heap.size rfl ?_
            intro g3 d3 wn hown hgrow hat hlB
            have hSn := hS.out.app (by rw [HL.out.2.2.1]; exact hown) hgrow hat rfl rfl
            replace hS := Lib.hid hSn
            clear hSn hnews hown hgrow hat hlB
            refine hKQ.out _ _ (fun _ => ⟨⟨_, ln_of hS.out⟩, rfl⟩) (fun _ => ?_)
            (try simp only [Act.put, List.getElem_cons_succ, List.getElem_cons_zero, List.setIfInBounds_toArray, List.set_cons_zero, List.set_cons_succ])
            exact hfr.out _ _ _ _ (N3_4_8_9_15_16.out t1 g1 d1 t2 g2 d2 t3 g3 d3 wn  hS))
          have N3_4_8_9 : Hid (∀ (t1 : Nat) (g1 d1 : Nat) (t2 : Nat) (g2 d2 : Nat) (wx : World), Hid (Lr W p a0 cap xs [.box sb (.int .i64 c) (.int .i64 h) (.int .i64 1000) vR, .box qb (.int .i64 c) (.int .i64 h) (.int .i64 1000) vQ, .box pb (.int .i64 c) (.int .i64 h) (.int .i64 1000) vP, .pix gK cK K] B [⟨.slice (some ⟨g2, 0, none⟩) (k + 1) d2, Q ++ [y]⟩, ⟨.slice (some ⟨t2, 0, none⟩) 1 1, [y]⟩, ⟨.slice (some ⟨g1, 0, none⟩) (k + 1) d1, P ++ [x]⟩, ⟨.slice (some ⟨t1, 0, none⟩) 1 1, [x]⟩, ⟨vR, R⟩] wx) → F 7 #[true, true, true, true, true, true, true, true, true, true, true, true, true, true, true, false, false, true, false, false, false, false, false] { tmps := #[Value.slice a0 xs.length cap, undef, Value.bool false, Value.pointer (some { block := p, off := 0 }), Value.int IntKind.i64 c, Value.int IntKind.i64 h, Value.slice (some { block := gK, off := 0 }) 9 cK, Value.int IntKind.i64 9, Value.pointer (some { block := pb, off := 0 }), Value.pointer (some { block := qb, off := 0 }), Value.pointer (some { block := sb, off := 0 }), Value.int IntKind.i64 ↑k, Value.int IntKind.i64 x, Value.int IntKind.i64 y, undef, undef, undef, undef, undef, undef, undef, undef, undef, undef, undef, Value.slice a0 xs.length cap, Value.pointer (some { block := p, off := 0 }), Value.pointer (some { block := p, off := 0 }), Value.int IntKind.i64 m5, Value.int IntKind.i64 c, Value.pointer (some { block := p, off := 0 }), Value.int IntKind.i64 m4, Value.int IntKind.i64 h, Value.int IntKind.i64 9, Value.bool false, u35, u36, u37, u38, u39, u40, u41, Value.int IntKind.i64 c, Value.int IntKind.i64 h, Value.agg #[Value.int IntKind.i64 c, Value.int IntKind.i64 h, Value.int IntKind.i64 1000, Value.slice none 0 0], Value.int IntKind.i64 c, Value.int IntKind.i64 h, Value.agg #[Value.int IntKind.i64 c, Value.int IntKind.i64 h, Value.int IntKind.i64 1000, Value.slice none 0 0], Value.agg #[Value.int IntKind.i64 c, Value.int IntKind.i64 h, Value.int IntKind.i64 1000, Value.slice none 0 0], Value.int IntKind.i64 ↑k, Value.int IntKind.i64 c, Value.int IntKind.i64 h, Value.int IntKind.i64 ↑N, Value.bool true, u54, u55, Value.pointer (some { block := p, off := 0 }), Value.int IntKind.i64 x, Value.pointer (some { block := p, off := 0 }), Value.int IntKind.i64 y, Value.pointer (some { block := pb, off := 3 }), vP, Value.int IntKind.i64 x, .slice (some ⟨t1, 0, none⟩) 1 1, .slice (some ⟨g1, 0, none⟩) (k + 1) d1, Value.pointer (some { block := qb, off := 3 }), vQ, Value.int IntKind.i64 y, .slice (some ⟨t2, 0, none⟩) 1 1, .slice (some ⟨g2, 0, none⟩) (k + 1) d2, Value.pointer (some { block := sb, off := 3 }), vR, Value.int IntKind.i64 x, Value.int IntKind.i64 y, Value.int IntKind.i64 z, u75, u76, .pointer (some ⟨pb, 3, none⟩), u78, u79, undef, undef, undef, undef, undef, undef, undef, undef, undef, undef, undef, undef, undef, undef, undef, undef, undef, undef, undef, undef, undef, undef, undef, undef, undef, undef, undef, undef, undef, undef, undef, undef, undef, undef, undef, undef, undef, undef, undef, undef, undef, undef, undef, undef, undef, undef, undef, undef, undef, undef, undef, undef, undef, undef, undef, undef, undef, undef, undef, undef, undef, undef, undef, undef, undef, undef, undef, undef, undef, undef, undef, undef, undef, undef, undef, undef, undef, undef, undef, undef, undef, undef, undef, undef, undef, undef, undef, undef, undef, undef, undef, undef, undef, undef, undef, undef, undef, undef, undef, undef, undef, undef, undef, undef, undef, undef, undef, undef, undef], defers := [] } wx) := Lib.hid (by
            intro t1 g1 d1 t2 g2 d2 wx  hS
            refine hto.out _ _ _ _ ?_
            refine wpAnyL_ready (rs := [15]) (by kernel_rfl) (by simp) (AllReadyL.cons rfl (fun KQ hKQ => ?_) AllReadyL.nil)
            go_simp
            (try go_wp2_with fail)
            have hSn := hS.out.new z
            obtain ⟨t3, eb⟩ : ∃ b, wx.heap.size = b := ⟨_, rfl⟩
            obtain ⟨wn, ew⟩ : ∃ b, wx.alloc (.cells #[.int .i64 z] 3) = b := ⟨_, rfl⟩
            rw [ew, eb] at hSn
            simp only [ew, eb]
            replace hS := Lib.hid hSn
            clear hSn ew eb
            refine hKQ.out _ _ (fun _ => ⟨⟨_, ln_of hS.out⟩, rfl⟩) (fun _ => ?_)
            (try simp only [Act.put, List.getElem_cons_succ, List.getElem_cons_zero, List.setIfInBounds_toArray, List.set_cons_zero, List.set_cons_succ])
            exact hfr.out _ _ _ _ (N3_4_8_9_15.out t1 g1 d1 t2 g2 d2 t3 wn  hS))
          have N3_4_8_15 : Hid (∀ (t1 : Nat) (g1 d1 : Nat) (t2 : Nat) (t3 : Nat) (wx : World), Hid (Lr W p a0 cap xs [.box sb (.int .i64 c) (.int .i64 h) (.int .i64 1000) vR, .box qb (.int .i64 c) (.int .i64 h) (.int .i64 1000) vQ, .box pb (.int .i64 c) (.int .i64 h) (.int .i64 1000) vP, .pix gK cK K] B [⟨.slice (some ⟨t3, 0, none⟩) 1 1, [z]⟩, ⟨.slice (some ⟨t2, 0, none⟩) 1 1, [y]⟩, ⟨.slice (some ⟨g1, 0, none⟩) (k + 1) d1, P ++ [x]⟩, ⟨.slice (some ⟨t1, 0, none⟩) 1 1, [x]⟩, ⟨vQ, Q⟩, ⟨vR, R⟩] wx) → F 7 #[true, true, true, true, true, true, true, true, true, false, true, true, true, true, true, true, false, true, false, false, false, false, false] { tmps := #[Value.slice a0 xs.length cap, undef, Value.bool false, Value.pointer (some { block := p, off := 0 }), Value.int IntKind.i64 c, Value.int IntKind.i64 h, Value.slice (some { block := gK, off := 0 }) 9 cK, Value.int IntKind.i64 9, Value.pointer (some { block := pb, off := 0 }), Value.pointer (some { block := qb, off := 0 }), Value.pointer (some { block := sb, off := 0 }), Value.int IntKind.i64 ↑k, Value.int IntKind.i64 x, Value.int IntKind.i64 y, undef, undef, undef, undef, undef, undef, undef, undef, undef, undef, undef, Value.slice a0 xs.length cap, Value.pointer (some { block := p, off := 0 }), Value.pointer (some { block := p, off := 0 }), Value.int IntKind.i64 m5, Value.int IntKind.i64 c, Value.pointer (some { block := p, off := 0 }), Value.int IntKind.i64 m4, Value.int IntKind.i64 h, Value.int IntKind.i64 9, Value.bool false, u35, u36, u37, u38, u39, u40, u41, Value.int IntKind.i64 c, Value.int IntKind.i64 h, Value.agg #[Value.int IntKind.i64 c, Value.int IntKind.i64 h, Value.int IntKind.i64 1000, Value.slice none 0 0], Value.int IntKind.i64 c, Value.int IntKind.i64 h, Value.agg #[Value.int IntKind.i64 c, Value.int IntKind.i64 h, Value.int IntKind.i64 1000, Value.slice none 0 0], Value.agg #[Value.int IntKind.i64 c, Value.int IntKind.i64 h, Value.int IntKind.i64 1000, Value.slice none 0 0], Value.int IntKind.i64 ↑k, Value.int IntKind.i64 c, Value.int IntKind.i64 h, Value.int IntKind.i64 ↑N, Value.bool true, u54, u55, Value.pointer (some { block := p, off := 0 }), Value.int IntKind.i64 x, Value.pointer (some { block := p, off := 0 }), Value.int IntKind.i64 y, Value.pointer (some { block := pb, off := 3 }), vP, Value.int IntKind.i64 x, .slice (some ⟨t1, 0, none⟩) 1 1, .slice (some ⟨g1, 0, none⟩) (k + 1) d1, Value.pointer (some { block := qb, off := 3 }), vQ, Value.int IntKind.i64 y, .slice (some ⟨t2, 0, none⟩) 1 1, u69, Value.pointer (some { block := sb, off := 3 }), vR, Value.int IntKind.i64 x, Value.int IntKind.i64 y, Value.int IntKind.i64 z, .slice (some ⟨t3, 0, none⟩) 1 1, u76, .pointer (some ⟨pb, 3, none⟩), u78, u79, undef, undef, undef, undef, undef, undef, undef, undef, undef, undef, undef, undef, undef, undef, undef, undef, undef, undef, undef, undef, undef, undef, undef, undef, undef, undef, undef, undef, undef, undef, undef, undef, undef, undef, undef, undef, undef, undef, undef, undef, undef, undef, undef, undef, undef, undef, undef, undef, undef, undef, undef, undef, undef, undef, undef, undef, undef, undef, undef, undef, undef, undef, undef, undef, undef, undef, undef, undef, undef, undef, undef, undef, undef, undef, undef, undef, undef, undef, undef, undef, undef, undef, undef, undef, undef, undef, undef, undef, undef, undef, undef, undef, undef, undef, undef, undef, undef, undef, undef, undef, undef, undef, undef, undef, undef, undef, undef, undef, undef], defers := [] } wx) := Lib.hid (by
            intro t1 g1 d1 t2 t3 wx  hS
            refine hto.out _ _ _ _ ?_
            refine wpAnyL_ready (rs := [9]) (by kernel_rfl) (by simp) (AllReadyL.cons rfl (fun KQ hKQ => ?_) AllReadyL.nil)
            replace hS := Lib.hid (hS.out.pull 1 rfl rfl)
            replace hS := Lib.hid (hS.out.pull 4 rfl rfl)
            have hnews : ∀ j u, ([.int .i64 y] : List Value)[j]? = some u → wx.cell? ((⟨t2, 0, none⟩ : Addr).add j) = some u := one_news (hS.out.ro.ok ⟨.slice (some ⟨t2, 0, none⟩) 1 1, [y]⟩ (by simp))
            refine Eq.mpr (if_pos (by kernel_rfl)) ?_
            refine wp_append_lies _ (.tmp 66) (.tmp 68) 22 rfl B 3 j0 (.int .i64 0) 1 8 Try.underlying22 hj'.out hj0'.out hj1'.out hj2'.out rfl (by decide) vQ k (ints Q) rfl (own_at HL.out.2.1 (hS.out.ro.ok ⟨vQ, Q⟩ (by simp))) ⟨t2, 0, none⟩ 1 1 [.int .i64 y] rfl rfl hnews (by intro u hu; simp at hu; subst hu; rfl) (by decide) hKM.out.1 hKM.out.2 hS.out.lo.2.2 wx.heap.size rfl ?_
            intro g2 d2 wn hown hgrow hat hlB
            have hSn := hS.out.app (by rw [HL.out.2.1]; exact hown) hgrow hat rfl rfl
            replace hS := Lib.hid hSn
            clear hSn hnews hown hgrow hat hlB
            replace hS := Lib.hid (hS.out.pull 1 rfl rfl)
            replace hS := Lib.hid (hS.out.pull 1 rfl rfl)
            replace hS := Lib.hid (hS.out.pull 2 rfl rfl)
            refine hKQ.out _ _ (fun _ => ⟨⟨_, ln_of hS.out⟩, rfl⟩) (fun _ => ?_)
            (try simp only [Act.put, List.getElem_cons_succ, List.getElem_cons_zero, List.setIfInBounds_toArray, List.set_cons_zero, List.set_cons_succ])
            exact hfr.out _ _ _ _ (N3_4_8_9_15.out t1 g1 d1 t2 g2 d2 t3 wn  hS))
          have N3_4_8 : Hid (∀ (t1 : Nat) (g1 d1 : Nat) (t2 : Nat) (wx : World), Hid (Lr W p a0 cap xs [.box sb (.int .i64 c) (.int .i64 h) (.int .i64 1000) vR, .box qb (.int .i64 c) (.int .i64 h) (.int .i64 1000) vQ, .box pb (.int .i64 c) (.int .i64 h) (.int .i64 1000) vP, .pix gK cK K] B [⟨.slice (some ⟨t2, 0, none⟩) 1 1, [y]⟩, ⟨.slice (some ⟨g1, 0, none⟩) (k + 1) d1, P ++ [x]⟩, ⟨.slice (some ⟨t1, 0, none⟩) 1 1, [x]⟩, ⟨vQ, Q⟩, ⟨vR, R⟩] wx) → F 8 #[true, true, true, true, true, true, true, true, true, false, true, true, true, true, true, false, false, true, false, false, false, false, false] { tmps := #[Value.slice a0 xs.length cap, undef, Value.bool false, Value.pointer (some { block := p, off := 0 }), Value.int IntKind.i64 c, Value.int IntKind.i64 h, Value.slice (some { block := gK, off := 0 }) 9 cK, Value.int IntKind.i64 9, Value.pointer (some { block := pb, off := 0 }), Value.pointer (some { block := qb, off := 0 }), Value.pointer (some { block := sb, off := 0 }), Value.int IntKind.i64 ↑k, Value.int IntKind.i64 x, Value.int IntKind.i64 y, undef, undef, undef, undef, undef, undef, undef, undef, undef, undef, undef, Value.slice a0 xs.length cap, Value.pointer (some { block := p, off := 0 }), Value.pointer (some { block := p, off := 0 }), Value.int IntKind.i64 m5, Value.int IntKind.i64 c, Value.pointer (some { block := p, off := 0 }), Value.int IntKind.i64 m4, Value.int IntKind.i64 h, Value.int IntKind.i64 9, Value.bool false, u35, u36, u37, u38, u39, u40, u41, Value.int IntKind.i64 c, Value.int IntKind.i64 h, Value.agg #[Value.int IntKind.i64 c, Value.int IntKind.i64 h, Value.int IntKind.i64 1000, Value.slice none 0 0], Value.int IntKind.i64 c, Value.int IntKind.i64 h, Value.agg #[Value.int IntKind.i64 c, Value.int IntKind.i64 h, Value.int IntKind.i64 1000, Value.slice none 0 0], Value.agg #[Value.int IntKind.i64 c, Value.int IntKind.i64 h, Value.int IntKind.i64 1000, Value.slice none 0 0], Value.int IntKind.i64 ↑k, Value.int IntKind.i64 c, Value.int IntKind.i64 h, Value.int IntKind.i64 ↑N, Value.bool true, u54, u55, Value.pointer (some { block := p, off := 0 }), Value.int IntKind.i64 x, Value.pointer (some { block := p, off := 0 }), Value.int IntKind.i64 y, Value.pointer (some { block := pb, off := 3 }), vP, Value.int IntKind.i64 x, .slice (some ⟨t1, 0, none⟩) 1 1, .slice (some ⟨g1, 0, none⟩) (k + 1) d1, Value.pointer (some { block := qb, off := 3 }), vQ, Value.int IntKind.i64 y, .slice (some ⟨t2, 0, none⟩) 1 1, u69, Value.pointer (some { block := sb, off := 3 }), vR, Value.int IntKind.i64 x, Value.int IntKind.i64 y, Value.int IntKind.i64 z, u75, u76, .pointer (some ⟨pb, 3, none⟩), u78, u79, undef, undef, undef, undef, undef, undef, undef, undef, undef, undef, undef, undef, undef, undef, undef, undef, undef, undef, undef, undef, undef, undef, undef, undef, undef, undef, undef, undef, undef, undef, undef, undef, undef, undef, undef, undef, undef, undef, undef, undef, undef, undef, undef, undef, undef, undef, undef, undef, undef, undef, undef, undef, undef, undef, undef, undef, undef, undef, undef, undef, undef, undef, undef, undef, undef, undef, undef, undef, undef, undef, undef, undef, undef, undef, undef, undef, undef, undef, undef, undef, undef, undef, undef, undef, undef, undef, undef, undef, undef, undef, undef, undef, undef, undef, undef, undef, undef, undef, undef, undef, undef, undef, undef, undef, undef, undef, undef, undef, undef], defers := [] } wx) := Lib.hid (by
            intro t1 g1 d1 t2 wx  hS
            refine hto.out _ _ _ _ ?_
            refine wpAnyL_ready (rs := [9, 15]) (by kernel_rfl) (by simp) (AllReadyL.cons rfl (fun KQ hKQ => ?_) (AllReadyL.cons rfl (fun KQ hKQ => ?_) AllReadyL.nil))
            · replace hS := Lib.hid (hS.out.pull 3 rfl rfl)
              have hnews : ∀ j u, ([.int .i64 y] : List Value)[j]? = some u → wx.cell? ((⟨t2, 0, none⟩ : Addr).add j) = some u := one_news (hS.out.ro.ok ⟨.slice (some ⟨t2, 0, none⟩) 1 1, [y]⟩ (by simp))
              refine Eq.mpr (if_pos (by kernel_rfl)) ?_
              refine wp_append_lies _ (.tmp 66) (.tmp 68) 22 rfl B 3 j0 (.int .i64 0) 1 8 Try.underlying22 hj'.out hj0'.out hj1'.out hj2'.out rfl (by decide) vQ k (ints Q) rfl (own_at HL.out.2.1 (hS.out.ro.ok ⟨vQ, Q⟩ (by simp))) ⟨t2, 0, none⟩ 1 1 [.int .i64 y] rfl rfl hnews (by intro u hu; simp at hu; subst hu; rfl) (by decide) hKM.out.1 hKM.out.2 hS.out.lo.2.2 wx.heap.size rfl ?_
              intro g2 d2 wn hown hgrow hat hlB
              have hSn := hS.out.app (by rw [HL.out.2.1]; exact hown) hgrow hat rfl rfl
              replace hS := Lib.hid hSn
              clear hSn hnews hown hgrow hat hlB
              refine hKQ.out _ _ (fun _ => ⟨⟨_, ln_of hS.out⟩, rfl⟩) (fun _ => ?_)
              (try simp only [Act.put, List.getElem_cons_succ, List.getElem_cons_zero, List.setIfInBounds_toArray, List.set_cons_zero, List.set_cons_succ])
              exact hfr.out _ _ _ _ (N3_4_8_9.out t1 g1 d1 t2 g2 d2 wn  hS)
            · go_simp
              (try go_wp2_with fail)
              have hSn := hS.out.new z
              obtain ⟨t3, eb⟩ : ∃ b, wx.heap.size = b := ⟨_, rfl⟩
              obtain ⟨wn, ew⟩ : ∃ b, wx.alloc (.cells #[.int .i64 z] 3) = b := ⟨_, rfl⟩
              rw [ew, eb] at hSn
              simp only [ew, eb]
              replace hS := Lib.hid hSn
              clear hSn ew eb
              refine hKQ.out _ _ (fun _ => ⟨⟨_, ln_of hS.out⟩, rfl⟩) (fun _ => ?_)
              (try simp only [Act.put, List.getElem_cons_succ, List.getElem_cons_zero, List.setIfInBounds_toArray, List.set_cons_zero, List.set_cons_succ])
              exact hfr.out _ _ _ _ (N3_4_8_15.out t1 g1 d1 t2 t3 wn  hS))
          have N3_4_15 : Hid (∀ (t1 : Nat) (g1 d1 : Nat) (t3 : Nat) (wx : World), Hid (Lr W p a0 cap xs [.box sb (.int .i64 c) (.int .i64 h) (.int .i64 1000) vR, .box qb (.int .i64 c) (.int .i64 h) (.int .i64 1000) vQ, .box pb (.int .i64 c) (.int .i64 h) (.int .i64 1000) vP, .pix gK cK K] B [⟨.slice (some ⟨t3, 0, none⟩) 1 1, [z]⟩, ⟨.slice (some ⟨g1, 0, none⟩) (k + 1) d1, P ++ [x]⟩, ⟨.slice (some ⟨t1, 0, none⟩) 1 1, [x]⟩, ⟨vQ, Q⟩, ⟨vR, R⟩] wx) → F 8 #[true, true, true, true, true, true, true, true, false, false, true, true, true, true, true, true, false, true, false, false, false, false, false] { tmps := #[Value.slice a0 xs.length cap, undef, Value.bool false, Value.pointer (some { block := p, off := 0 }), Value.int IntKind.i64 c, Value.int IntKind.i64 h, Value.slice (some { block := gK, off := 0 }) 9 cK, Value.int IntKind.i64 9, Value.pointer (some { block := pb, off := 0 }), Value.pointer (some { block := qb, off := 0 }), Value.pointer (some { block := sb, off := 0 }), Value.int IntKind.i64 ↑k, Value.int IntKind.i64 x, Value.int IntKind.i64 y, undef, undef, undef, undef, undef, undef, undef, undef, undef, undef, undef, Value.slice a0 xs.length cap, Value.pointer (some { block := p, off := 0 }), Value.pointer (some { block := p, off := 0 }), Value.int IntKind.i64 m5, Value.int IntKind.i64 c, Value.pointer (some { block := p, off := 0 }), Value.int IntKind.i64 m4, Value.int IntKind.i64 h, Value.int IntKind.i64 9, Value.bool false, u35, u36, u37, u38, u39, u40, u41, Value.int IntKind.i64 c, Value.int IntKind.i64 h, Value.agg #[Value.int IntKind.i64 c, Value.int IntKind.i64 h, Value.int IntKind.i64 1000, Value.slice none 0 0], Value.int IntKind.i64 c, Value.int IntKind.i64 h, Value.agg #[Value.int IntKind.i64 c, Value.int IntKind.i64 h, Value.int IntKind.i64 1000, Value.slice none 0 0], Value.agg #[Value.int IntKind.i64 c, Value.int IntKind.i64 h, Value.int IntKind.i64 1000, Value.slice none 0 0], Value.int IntKind.i64 ↑k, Value.int IntKind.i64 c, Value.int IntKind.i64 h, Value.int IntKind.i64 ↑N, Value.bool true, u54, u55, Value.pointer (some { block := p, off := 0 }), Value.int IntKind.i64 x, Value.pointer (some { block := p, off := 0 }), Value.int IntKind.i64 y, Value.pointer (some { block := pb, off := 3 }), vP, Value.int IntKind.i64 x, .slice (some ⟨t1, 0, none⟩) 1 1, .slice (some ⟨g1, 0, none⟩) (k + 1) d1, Value.pointer (some { block := qb, off := 3 }), vQ, Value.int IntKind.i64 y, u68, u69, Value.pointer (some { block := sb, off := 3 }), vR, Value.int IntKind.i64 x, Value.int IntKind.i64 y, Value.int IntKind.i64 z, .slice (some ⟨t3, 0, none⟩) 1 1, u76, .pointer (some ⟨pb, 3, none⟩), u78, u79, undef, undef, undef, undef, undef, undef, undef, undef, undef, undef, undef, undef, undef, undef, undef, undef, undef, undef, undef, undef, undef, undef, undef, undef, undef, undef, undef, undef, undef, undef, undef, undef, undef, undef, undef, undef, undef, undef, undef, undef, undef, undef, undef, undef, undef, undef, undef, undef, undef, undef, undef, undef, undef, undef, undef, undef, undef, undef, undef, undef, undef, undef, undef, undef, undef, undef, undef, undef, undef, undef, undef, undef, undef, undef, undef, undef, undef, undef, undef, undef, undef, undef, undef, undef, undef, undef, undef, undef, undef, undef, undef, undef, undef, undef, undef, undef, undef, undef, undef, undef, undef, undef, undef, undef, undef, undef, undef, undef, undef], defers := [] } wx) := Lib.hid (by
            intro t1 g1 d1 t3 wx  hS
            refine hto.out _ _ _ _ ?_
            refine wpAnyL_ready (rs := [8]) (by kernel_rfl) (by simp) (AllReadyL.cons rfl (fun KQ hKQ => ?_) AllReadyL.nil)
            go_simp
            (try go_wp2_with fail)
            have hSn := hS.out.new y
            obtain ⟨t2, eb⟩ : ∃ b, wx.heap.size = b := ⟨_, rfl⟩
            obtain ⟨wn, ew⟩ : ∃ b, wx.alloc (.cells #[.int .i64 y] 3) = b := ⟨_, rfl⟩
            rw [ew, eb] at hSn
            simp only [ew, eb]
            replace hS := Lib.hid hSn
            clear hSn ew eb
            replace hS := Lib.hid (hS.out.pull 1 rfl rfl)
            refine hKQ.out _ _ (fun _ => ⟨⟨_, ln_of hS.out⟩, rfl⟩) (fun _ => ?_)
            (try simp only [Act.put, List.getElem_cons_succ, List.getElem_cons_zero, List.setIfInBounds_toArray, List.set_cons_zero, List.set_cons_succ])
            exact hfr.out _ _ _ _ (N3_4_8_15.out t1 g1 d1 t2 t3 wn  hS))
          have N3_8_15 : Hid (∀ (t1 : Nat) (t2 : Nat) (t3 : Nat) (wx : World), Hid (Lr W p a0 cap xs [.box sb (.int .i64 c) (.int .i64 h) (.int .i64 1000) vR, .box qb (.int .i64 c) (.int .i64 h) (.int .i64 1000) vQ, .box pb (.int .i64 c) (.int .i64 h) (.int .i64 1000) vP, .pix gK cK K] B [⟨.slice (some ⟨t3, 0, none⟩) 1 1, [z]⟩, ⟨.slice (some ⟨t2, 0, none⟩) 1 1, [y]⟩, ⟨.slice (some ⟨t1, 0, none⟩) 1 1, [x]⟩, ⟨vP, P⟩, ⟨vQ, Q⟩, ⟨vR, R⟩] wx) → F 9 #[true, true, true, true, false, true, true, true, true, false, true, true, true, true, true, true, false, false, false, false, false, false, false] { tmps := #[Value.slice a0 xs.length cap, undef, Value.bool false, Value.pointer (some { block := p, off := 0 }), Value.int IntKind.i64 c, Value.int IntKind.i64 h, Value.slice (some { block := gK, off := 0 }) 9 cK, Value.int IntKind.i64 9, Value.pointer (some { block := pb, off := 0 }), Value.pointer (some { block := qb, off := 0 }), Value.pointer (some { block := sb, off := 0 }), Value.int IntKind.i64 ↑k, Value.int IntKind.i64 x, Value.int IntKind.i64 y, undef, undef, undef, undef, undef, undef, undef, undef, undef, undef, undef, Value.slice a0 xs.length cap, Value.pointer (some { block := p, off := 0 }), Value.pointer (some { block := p, off := 0 }), Value.int IntKind.i64 m5, Value.int IntKind.i64 c, Value.pointer (some { block := p, off := 0 }), Value.int IntKind.i64 m4, Value.int IntKind.i64 h, Value.int IntKind.i64 9, Value.bool false, u35, u36, u37, u38, u39, u40, u41, Value.int IntKind.i64 c, Value.int IntKind.i64 h, Value.agg #[Value.int IntKind.i64 c, Value.int IntKind.i64 h, Value.int IntKind.i64 1000, Value.slice none 0 0], Value.int IntKind.i64 c, Value.int IntKind.i64 h, Value.agg #[Value.int IntKind.i64 c, Value.int IntKind.i64 h, Value.int IntKind.i64 1000, Value.slice none 0 0], Value.agg #[Value.int IntKind.i64 c, Value.int IntKind.i64 h, Value.int IntKind.i64 1000, Value.slice none 0 0], Value.int IntKind.i64 ↑k, Value.int IntKind.i64 c, Value.int IntKind.i64 h, Value.int IntKind.i64 ↑N, Value.bool true, u54, u55, Value.pointer (some { block := p, off := 0 }), Value.int IntKind.i64 x, Value.pointer (some { block := p, off := 0 }), Value.int IntKind.i64 y, Value.pointer (some { block := pb, off := 3 }), vP, Value.int IntKind.i64 x, .slice (some ⟨t1, 0, none⟩) 1 1, u64, Value.pointer (some { block := qb, off := 3 }), vQ, Value.int IntKind.i64 y, .slice (some ⟨t2, 0, none⟩) 1 1, u69, Value.pointer (some { block := sb, off := 3 }), vR, Value.int IntKind.i64 x, Value.int IntKind.i64 y, Value.int IntKind.i64 z, .slice (some ⟨t3, 0, none⟩) 1 1, u76, u77, u78, u79, undef, undef, undef, undef, undef, undef, undef, undef, undef, undef, undef, undef, undef, undef, undef, undef, undef, undef, undef, undef, undef, undef, undef, undef, undef, undef, undef, undef, undef, undef, undef, undef, undef, undef, undef, undef, undef, undef, undef, undef, undef, undef, undef, undef, undef, undef, undef, undef, undef, undef, undef, undef, undef, undef, undef, undef, undef, undef, undef, undef, undef, undef, undef, undef, undef, undef, undef, undef, undef, undef, undef, undef, undef, undef, undef, undef, undef, undef, undef, undef, undef, undef, undef, undef, undef, undef, undef, undef, undef, undef, undef, undef, undef, undef, undef, undef, undef, undef, undef, undef, undef, undef, undef, undef, undef, undef, undef, undef, undef], defers := [] } wx) := Lib.hid (by
            intro t1 t2 t3 wx  hS
            refine hto.out _ _ _ _ ?_
            refine wpAnyL_ready (rs := [4]) (by kernel_rfl) (by simp) (AllReadyL.cons rfl (fun KQ hKQ => ?_) AllReadyL.nil)
            replace hS := Lib.hid (hS.out.pull 2 rfl rfl)
            replace hS := Lib.hid (hS.out.pull 3 rfl rfl)
            have hnews : ∀ j u, ([.int .i64 x] : List Value)[j]? = some u → wx.cell? ((⟨t1, 0, none⟩ : Addr).add j) = some u := one_news (hS.out.ro.ok ⟨.slice (some ⟨t1, 0, none⟩) 1 1, [x]⟩ (by simp))
            refine Eq.mpr (if_pos (by kernel_rfl)) ?_
            refine wp_append_lies _ (.tmp 61) (.tmp 63) 22 rfl B 3 j0 (.int .i64 0) 1 8 Try.underlying22 hj'.out hj0'.out hj1'.out hj2'.out rfl (by decide) vP k (ints P) rfl (own_at HL.out.1 (hS.out.ro.ok ⟨vP, P⟩ (by simp))) ⟨t1, 0, none⟩ 1 1 [.int .i64 x] rfl rfl hnews (by intro u hu; simp at hu; subst hu; rfl) (by decide) hKM.out.1 hKM.out.2 hS.out.lo.2.2 wx.heap.size rfl ?_
            intro g1 d1 wn hown hgrow hat hlB
            have hSn := hS.out.app (by rw [HL.out.1]; exact hown) hgrow hat rfl rfl
            replace hS := Lib.hid hSn
            clear hSn hnews hown hgrow hat hlB
            replace hS := Lib.hid (hS.out.pull 1 rfl rfl)
            replace hS := Lib.hid (hS.out.pull 1 rfl rfl)
            replace hS := Lib.hid (hS.out.pull 3 rfl rfl)
            replace hS := Lib.hid (hS.out.pull 3 rfl rfl)
            refine hKQ.out _ _ (fun _ => ⟨⟨_, ln_of hS.out⟩, rfl⟩) (fun _ => ?_)
            (try simp only [Act.put, List.getElem_cons_succ, List.getElem_cons_zero, List.setIfInBounds_toArray, List.set_cons_zero, List.set_cons_succ])
            change wpAnyL _ _ _ _ _ _ _ _ { tmps := #[Value.slice a0 xs.length cap, undef, Value.bool false, Value.pointer (some { block := p, off := 0 }), Value.int IntKind.i64 c, Value.int IntKind.i64 h, Value.slice (some { block := gK, off := 0 }) 9 cK, Value.int IntKind.i64 9, Value.pointer (some { block := pb, off := 0 }), Value.pointer (some { block := qb, off := 0 }), Value.pointer (some { block := sb, off := 0 }), Value.int IntKind.i64 ↑k, Value.int IntKind.i64 x, Value.int IntKind.i64 y, undef, undef, undef, undef, undef, undef, undef, undef, undef, undef, undef, Value.slice a0 xs.length cap, Value.pointer (some { block := p, off := 0 }), Value.pointer (some { block := p, off := 0 }), Value.int IntKind.i64 m5, Value.int IntKind.i64 c, Value.pointer (some { block := p, off := 0 }), Value.int IntKind.i64 m4, Value.int IntKind.i64 h, Value.int IntKind.i64 9, Value.bool false, u35, u36, u37, u38, u39, u40, u41, Value.int IntKind.i64 c, Value.int IntKind.i64 h, Value.agg #[Value.int IntKind.i64 c, Value.int IntKind.i64 h, Value.int IntKind.i64 1000, Value.slice none 0 0], Value.int IntKind.i64 c, Value.int IntKind.i64 h, Value.agg #[Value.int IntKind.i64 c, Value.int IntKind.i64 h, Value.int IntKind.i64 1000, Value.slice none 0 0], Value.agg #[Value.int IntKind.i64 c, Value.int IntKind.i64 h, Value.int IntKind.i64 1000, Value.slice none 0 0], Value.int IntKind.i64 ↑k, Value.int IntKind.i64 c, Value.int IntKind.i64 h, Value.int IntKind.i64 ↑N, Value.bool true, u54, u55, Value.pointer (some { block := p, off := 0 }), Value.int IntKind.i64 x, Value.pointer (some { block := p, off := 0 }), Value.int IntKind.i64 y, Value.pointer (some { block := pb, off := 3 }), vP, Value.int IntKind.i64 x, .slice (some ⟨t1, 0, none⟩) 1 1, .slice (some ⟨g1, 0, none⟩) (k + 1) d1, Value.pointer (some { block := qb, off := 3 }), vQ, Value.int IntKind.i64 y, .slice (some ⟨t2, 0, none⟩) 1 1, u69, Value.pointer (some { block := sb, off := 3 }), vR, Value.int IntKind.i64 x, Value.int IntKind.i64 y, Value.int IntKind.i64 z, .slice (some ⟨t3, 0, none⟩) 1 1, u76, u77, u78, u79, undef, undef, undef, undef, undef, undef, undef, undef, undef, undef, undef, undef, undef, undef, undef, undef, undef, undef, undef, undef, undef, undef, undef, undef, undef, undef, undef, undef, undef, undef, undef, undef, undef, undef, undef, undef, undef, undef, undef, undef, undef, undef, undef, undef, undef, undef, undef, undef, undef, undef, undef, undef, undef, undef, undef, undef, undef, undef, undef, undef, undef, undef, undef, undef, undef, undef, undef, undef, undef, undef, undef, undef, undef, undef, undef, undef, undef, undef, undef, undef, undef, undef, undef, undef, undef, undef, undef, undef, undef, undef, undef, undef, undef, undef, undef, undef, undef, undef, undef, undef, undef, undef, undef, undef, undef, undef, undef, undef, undef], defers := [] } _
            refine held_runL 1 17 7 rfl (by decide) (by kernel_rfl) (by kernel_rfl) (by kernel_rfl) (by kernel_rfl) (by kernel_rfl) (by kernel_rfl) (fun _ _ _ _ _ h => h) ⟨⟨_, ln_of hS.out⟩, rfl⟩ ?_
            simp only [List.take_succ_cons, List.take_zero, List.drop_succ_cons, List.drop_zero]
            repeat (go_big_quiet_step (fail))
            refine wpQuiet_nil ?_
            (try simp only [Act.put, List.getElem_cons_succ, List.getElem_cons_zero, List.setIfInBounds_toArray, List.set_cons_zero, List.set_cons_succ])
            exact hfr.out _ _ _ _ (N3_4_8_15.out t1 g1 d1 t2 t3 wn  hS))
          have N3_4 : Hid (∀ (t1 : Nat) (g1 d1 : Nat) (wx : World), Hid (Lr W p a0 cap xs [.box sb (.int .i64 c) (.int .i64 h) (.int .i64 1000) vR, .box qb (.int .i64 c) (.int .i64 h) (.int .i64 1000) vQ, .box pb (.int .i64 c) (.int .i64 h) (.int .i64 1000) vP, .pix gK cK K] B [⟨.slice (some ⟨g1, 0, none⟩) (k + 1) d1, P ++ [x]⟩, ⟨.slice (some ⟨t1, 0, none⟩) 1 1, [x]⟩, ⟨vQ, Q⟩, ⟨vR, R⟩] wx) → F 9 #[true, true, true, true, true, true, true, true, false, false, true, true, true, true, true, false, false, true, false, false, false, false, false] { tmps := #[Value.slice a0 xs.length cap, undef, Value.bool false, Value.pointer (some { block := p, off := 0 }), Value.int IntKind.i64 c, Value.int IntKind.i64 h, Value.slice (some { block := gK, off := 0 }) 9 cK, Value.int IntKind.i64 9, Value.pointer (some { block := pb, off := 0 }), Value.pointer (some { block := qb, off := 0 }), Value.pointer (some { block := sb, off := 0 }), Value.int IntKind.i64 ↑k, Value.int IntKind.i64 x, Value.int IntKind.i64 y, undef, undef, undef, undef, undef, undef, undef, undef, undef, undef, undef, Value.slice a0 xs.length cap, Value.pointer (some { block := p, off := 0 }), Value.pointer (some { block := p, off := 0 }), Value.int IntKind.i64 m5, Value.int IntKind.i64 c, Value.pointer (some { block := p, off := 0 }), Value.int IntKind.i64 m4, Value.int IntKind.i64 h, Value.int IntKind.i64 9, Value.bool false, u35, u36, u37, u38, u39, u40, u41, Value.int IntKind.i64 c, Value.int IntKind.i64 h, Value.agg #[Value.int IntKind.i64 c, Value.int IntKind.i64 h, Value.int IntKind.i64 1000, Value.slice none 0 0], Value.int IntKind.i64 c, Value.int IntKind.i64 h, Value.agg #[Value.int IntKind.i64 c, Value.int IntKind.i64 h, Value.int IntKind.i64 1000, Value.slice none 0 0], Value.agg #[Value.int IntKind.i64 c, Value.int IntKind.i64 h, Value.int IntKind.i64 1000, Value.slice none 0 0], Value.int IntKind.i64 ↑k, Value.int IntKind.i64 c, Value.int IntKind.i64 h, Value.int IntKind.i64 ↑N, Value.bool true, u54, u55, Value.pointer (some { block := p, off := 0 }), Value.int IntKind.i64 x, Value.pointer (some { block := p, off := 0 }), Value.int IntKind.i64 y, Value.pointer (some { block := pb, off := 3 }), vP, Value.int IntKind.i64 x, .slice (some ⟨t1, 0, none⟩) 1 1, .slice (some ⟨g1, 0, none⟩) (k + 1) d1, Value.pointer (some { block := qb, off := 3 }), vQ, Value.int IntKind.i64 y, u68, u69, Value.pointer (some { block := sb, off := 3 }), vR, Value.int IntKind.i64 x, Value.int IntKind.i64 y, Value.int IntKind.i64 z, u75, u76, .pointer (some ⟨pb, 3, none⟩), u78, u79, undef, undef, undef, undef, undef, undef, undef, undef, undef, undef, undef, undef, undef, undef, undef, undef, undef, undef, undef, undef, undef, undef, undef, undef, undef, undef, undef, undef, undef, undef, undef, undef, undef, undef, undef, undef, undef, undef, undef, undef, undef, undef, undef, undef, undef, undef, undef, undef, undef, undef, undef, undef, undef, undef, undef, undef, undef, undef, undef, undef, undef, undef, undef, undef, undef, undef, undef, undef, undef, undef, undef, undef, undef, undef, undef, undef, undef, undef, undef, undef, undef, undef, undef, undef, undef, undef, undef, undef, undef, undef, undef, undef, undef, undef, undef, undef, undef, undef, undef, undef, undef, undef, undef, undef, undef, undef, undef, undef, undef], defers := [] } wx) := Lib.hid (by
            intro t1 g1 d1 wx  hS
            refine hto.out _ _ _ _ ?_
            refine wpAnyL_ready (rs := [8, 15]) (by kernel_rfl) (by simp) (AllReadyL.cons rfl (fun KQ hKQ => ?_) (AllReadyL.cons rfl (fun KQ hKQ => ?_) AllReadyL.nil))
            · go_simp
              (try go_wp2_with fail)
              have hSn := hS.out.new y
              obtain ⟨t2, eb⟩ : ∃ b, wx.heap.size = b := ⟨_, rfl⟩
              obtain ⟨wn, ew⟩ : ∃ b, wx.alloc (.cells #[.int .i64 y] 3) = b := ⟨_, rfl⟩
              rw [ew, eb] at hSn
              simp only [ew, eb]
              replace hS := Lib.hid hSn
              clear hSn ew eb
              refine hKQ.out _ _ (fun _ => ⟨⟨_, ln_of hS.out⟩, rfl⟩) (fun _ => ?_)
              (try simp only [Act.put, List.getElem_cons_succ, List.getElem_cons_zero, List.setIfInBounds_toArray, List.set_cons_zero, List.set_cons_succ])
              exact hfr.out _ _ _ _ (N3_4_8.out t1 g1 d1 t2 wn  hS)
            · go_simp
              (try go_wp2_with fail)
              have hSn := hS.out.new z
              obtain ⟨t3, eb⟩ : ∃ b, wx.heap.size = b := ⟨_, rfl⟩
              obtain ⟨wn, ew⟩ : ∃ b, wx.alloc (.cells #[.int .i64 z] 3) = b := ⟨_, rfl⟩
              rw [ew, eb] at hSn
              simp only [ew, eb]
              replace hS := Lib.hid hSn
              clear hSn ew eb
              refine hKQ.out _ _ (fun _ => ⟨⟨_, ln_of hS.out⟩, rfl⟩) (fun _ => ?_)
              (try simp only [Act.put, List.getElem_cons_succ, List.getElem_cons_zero, List.setIfInBounds_toArray, List.set_cons_zero, List.set_cons_succ])
              exact hfr.out _ _ _ _ (N3_4_15.out t1 g1 d1 t3 wn  hS))
          have N3_8 : Hid (∀ (t1 : Nat) (t2 : Nat) (wx : World), Hid (Lr W p a0 cap xs [.box sb (.int .i64 c) (.int .i64 h) (.int .i64 1000) vR, .box qb (.int .i64 c) (.int .i64 h) (.int .i64 1000) vQ, .box pb (.int .i64 c) (.int .i64 h) (.int .i64 1000) vP, .pix gK cK K] B [⟨.slice (some ⟨t2, 0, none⟩) 1 1, [y]⟩, ⟨.slice (some ⟨t1, 0, none⟩) 1 1, [x]⟩, ⟨vP, P⟩, ⟨vQ, Q⟩, ⟨vR, R⟩] wx) → F 10 #[true, true, true, true, false, true, true, true, true, false, true, true, true, true, true, false, false, false, false, false, false, false, false] { tmps := #[Value.slice a0 xs.length cap, undef, Value.bool false, Value.pointer (some { block := p, off := 0 }), Value.int IntKind.i64 c, Value.int IntKind.i64 h, Value.slice (some { block := gK, off := 0 }) 9 cK, Value.int IntKind.i64 9, Value.pointer (some { block := pb, off := 0 }), Value.pointer (some { block := qb, off := 0 }), Value.pointer (some { block := sb, off := 0 }), Value.int IntKind.i64 ↑k, Value.int IntKind.i64 x, Value.int IntKind.i64 y, undef, undef, undef, undef, undef, undef, undef, undef, undef, undef, undef, Value.slice a0 xs.length cap, Value.pointer (some { block := p, off := 0 }), Value.pointer (some { block := p, off := 0 }), Value.int IntKind.i64 m5, Value.int IntKind.i64 c, Value.pointer (some { block := p, off := 0 }), Value.int IntKind.i64 m4, Value.int IntKind.i64 h, Value.int IntKind.i64 9, Value.bool false, u35, u36, u37, u38, u39, u40, u41, Value.int IntKind.i64 c, Value.int IntKind.i64 h, Value.agg #[Value.int IntKind.i64 c, Value.int IntKind.i64 h, Value.int IntKind.i64 1000, Value.slice none 0 0], Value.int IntKind.i64 c, Value.int IntKind.i64 h, Value.agg #[Value.int IntKind.i64 c, Value.int IntKind.i64 h, Value.int IntKind.i64 1000, Value.slice none 0 0], Value.agg #[Value.int IntKind.i64 c, Value.int IntKind.i64 h, Value.int IntKind.i64 1000, Value.slice none 0 0], Value.int IntKind.i64 ↑k, Value.int IntKind.i64 c, Value.int IntKind.i64 h, Value.int IntKind.i64 ↑N, Value.bool true, u54, u55, Value.pointer (some { block := p, off := 0 }), Value.int IntKind.i64 x, Value.pointer (some { block := p, off := 0 }), Value.int IntKind.i64 y, Value.pointer (some { block := pb, off := 3 }), vP, Value.int IntKind.i64 x, .slice (some ⟨t1, 0, none⟩) 1 1, u64, Value.pointer (some { block := qb, off := 3 }), vQ, Value.int IntKind.i64 y, .slice (some ⟨t2, 0, none⟩) 1 1, u69, Value.pointer (some { block := sb, off := 3 }), vR, Value.int IntKind.i64 x, Value.int IntKind.i64 y, Value.int IntKind.i64 z, u75, u76, u77, u78, u79, undef, undef, undef, undef, undef, undef, undef, undef, undef, undef, undef, undef, undef, undef, undef, undef, undef, undef, undef, undef, undef, undef, undef, undef, undef, undef, undef, undef, undef, undef, undef, undef, undef, undef, undef, undef, undef, undef, undef, undef, undef, undef, undef, undef, undef, undef, undef, undef, undef, undef, undef, undef, undef, undef, undef, undef, undef, undef, undef, undef, undef, undef, undef, undef, undef, undef, undef, undef, undef, undef, undef, undef, undef, undef, undef, undef, undef, undef, undef, undef, undef, undef, undef, undef, undef, undef, undef, undef, undef, undef, undef, undef, undef, undef, undef, undef, undef, undef, undef, undef, undef, undef, undef, undef, undef, undef, undef, undef, undef], defers := [] } wx) := Lib.hid (by
            intro t1 t2 wx  hS
            refine hto.out _ _ _ _ ?_
            refine wpAnyL_ready (rs := [4, 15]) (by kernel_rfl) (by simp) (AllReadyL.cons rfl (fun KQ hKQ => ?_) (AllReadyL.cons rfl (fun KQ hKQ => ?_) AllReadyL.nil))
            · replace hS := Lib.hid (hS.out.pull 1 rfl rfl)
              replace hS := Lib.hid (hS.out.pull 2 rfl rfl)
              have hnews : ∀ j u, ([.int .i64 x] : List Value)[j]? = some u → wx.cell? ((⟨t1, 0, none⟩ : Addr).add j) = some u := one_news (hS.out.ro.ok ⟨.slice (some ⟨t1, 0, none⟩) 1 1, [x]⟩ (by simp))
              refine Eq.mpr (if_pos (by kernel_rfl)) ?_
              refine wp_append_lies _ (.tmp 61) (.tmp 63) 22 rfl B 3 j0 (.int .i64 0) 1 8 Try.underlying22 hj'.out hj0'.out hj1'.out hj2'.out rfl (by decide) vP k (ints P) rfl (own_at HL.out.1 (hS.out.ro.ok ⟨vP, P⟩ (by simp))) ⟨t1, 0, none⟩ 1 1 [.int .i64 x] rfl rfl hnews (by intro u hu; simp at hu; subst hu; rfl) (by decide) hKM.out.1 hKM.out.2 hS.out.lo.2.2 wx.heap.size rfl ?_
              intro g1 d1 wn hown hgrow hat hlB
              have hSn := hS.out.app (by rw [HL.out.1]; exact hown) hgrow hat rfl rfl
              replace hS := Lib.hid hSn
              clear hSn hnews hown hgrow hat hlB
              replace hS := Lib.hid (hS.out.pull 1 rfl rfl)
              replace hS := Lib.hid (hS.out.pull 1 rfl rfl)
              replace hS := Lib.hid (hS.out.pull 2 rfl rfl)
              refine hKQ.out _ _ (fun _ => ⟨⟨_, ln_of hS.out⟩, rfl⟩) (fun _ => ?_)
              (try simp only [Act.put, List.getElem_cons_succ, List.getElem_cons_zero, List.setIfInBounds_toArray, List.set_cons_zero, List.set_cons_succ])
              change wpAnyL _ _ _ _ _ _ _ _ { tmps := #[Value.slice a0 xs.length cap, undef, Value.bool false, Value.pointer (some { block := p, off := 0 }), Value.int IntKind.i64 c, Value.int IntKind.i64 h, Value.slice (some { block := gK, off := 0 }) 9 cK, Value.int IntKind.i64 9, Value.pointer (some { block := pb, off := 0 }), Value.pointer (some { block := qb, off := 0 }), Value.pointer (some { block := sb, off := 0 }), Value.int IntKind.i64 ↑k, Value.int IntKind.i64 x, Value.int IntKind.i64 y, undef, undef, undef, undef, undef, undef, undef, undef, undef, undef, undef, Value.slice a0 xs.length cap, Value.pointer (some { block := p, off := 0 }), Value.pointer (some { block := p, off := 0 }), Value.int IntKind.i64 m5, Value.int IntKind.i64 c, Value.pointer (some { block := p, off := 0 }), Value.int IntKind.i64 m4, Value.int IntKind.i64 h, Value.int IntKind.i64 9, Value.bool false, u35, u36, u37, u38, u39, u40, u41, Value.int IntKind.i64 c, Value.int IntKind.i64 h, Value.agg #[Value.int IntKind.i64 c, Value.int IntKind.i64 h, Value.int IntKind.i64 1000, Value.slice none 0 0], Value.int IntKind.i64 c, Value.int IntKind.i64 h, Value.agg #[Value.int IntKind.i64 c, Value.int IntKind.i64 h, Value.int IntKind.i64 1000, Value.slice none 0 0], Value.agg #[Value.int IntKind.i64 c, Value.int IntKind.i64 h, Value.int IntKind.i64 1000, Value.slice none 0 0], Value.int IntKind.i64 ↑k, Value.int IntKind.i64 c, Value.int IntKind.i64 h, Value.int IntKind.i64 ↑N, Value.bool true, u54, u55, Value.pointer (some { block := p, off := 0 }), Value.int IntKind.i64 x, Value.pointer (some { block := p, off := 0 }), Value.int IntKind.i64 y, Value.pointer (some { block := pb, off := 3 }), vP, Value.int IntKind.i64 x, .slice (some ⟨t1, 0, none⟩) 1 1, .slice (some ⟨g1, 0, none⟩) (k + 1) d1, Value.pointer (some { block := qb, off := 3 }), vQ, Value.int IntKind.i64 y, .slice (some ⟨t2, 0, none⟩) 1 1, u69, Value.pointer (some { block := sb, off := 3 }), vR, Value.int IntKind.i64 x, Value.int IntKind.i64 y, Value.int IntKind.i64 z, u75, u76, u77, u78, u79, undef, undef, undef, undef, undef, undef, undef, undef, undef, undef, undef, undef, undef, undef, undef, undef, undef, undef, undef, undef, undef, undef, undef, undef, undef, undef, undef, undef, undef, undef, undef, undef, undef, undef, undef, undef, undef, undef, undef, undef, undef, undef, undef, undef, undef, undef, undef, undef, undef, undef, undef, undef, undef, undef, undef, undef, undef, undef, undef, undef, undef, undef, undef, undef, undef, undef, undef, undef, undef, undef, undef, undef, undef, undef, undef, undef, undef, undef, undef, undef, undef, undef, undef, undef, undef, undef, undef, undef, undef, undef, undef, undef, undef, undef, undef, undef, undef, undef, undef, undef, undef, undef, undef, undef, undef, undef, undef, undef, undef], defers := [] } _
              refine held_runL 1 17 8 rfl (by decide) (by kernel_rfl) (by kernel_rfl) (by kernel_rfl) (by kernel_rfl) (by kernel_rfl) (by kernel_rfl) (fun _ _ _ _ _ h => h) ⟨⟨_, ln_of hS.out⟩, rfl⟩ ?_
              simp only [List.take_succ_cons, List.take_zero, List.drop_succ_cons, List.drop_zero]
              repeat (go_big_quiet_step (fail))
              refine wpQuiet_nil ?_
              (try simp only [Act.put, List.getElem_cons_succ, List.getElem_cons_zero, List.setIfInBounds_toArray, List.set_cons_zero, List.set_cons_succ])
              exact hfr.out _ _ _ _ (N3_4_8.out t1 g1 d1 t2 wn  hS)
            · go_simp
              (try go_wp2_with fail)
              have hSn := hS.out.new z
              obtain ⟨t3, eb⟩ : ∃ b, wx.heap.size = b := ⟨_, rfl⟩
              obtain ⟨wn, ew⟩ : ∃ b, wx.alloc (.cells #[.int .i64 z] 3) = b := ⟨_, rfl⟩
              rw [ew, eb] at hSn
              simp only [ew, eb]
              replace hS := Lib.hid hSn
              clear hSn ew eb
              refine hKQ.out _ _ (fun _ => ⟨⟨_, ln_of hS.out⟩, rfl⟩) (fun _ => ?_)
              (try simp only [Act.put, List.getElem_cons_succ, List.getElem_cons_zero, List.setIfInBounds_toArray, List.set_cons_zero, List.set_cons_succ])
              exact hfr.out _ _ _ _ (N3_8_15.out t1 t2 t3 wn  hS))
          have N3_15 : Hid (∀ (t1 : Nat) (t3 : Nat) (wx : World), Hid (Lr W p a0 cap xs [.box sb (.int .i64 c) (.int .i64 h) (.int .i64 1000) vR, .box qb (.int .i64 c) (.int .i64 h) (.int .i64 1000) vQ, .box pb (.int .i64 c) (.int .i64 h) (.int .i64 1000) vP, .pix gK cK K] B [⟨.slice (some ⟨t3, 0, none⟩) 1 1, [z]⟩, ⟨.slice (some ⟨t1, 0, none⟩) 1 1, [x]⟩, ⟨vP, P⟩, ⟨vQ, Q⟩, ⟨vR, R⟩] wx) → F 10 #[true, true, true, true, false, true, true, true, false, false, true, true, true, true, true, true, false, false, false, false, false, false, false] { tmps := #[Value.slice a0 xs.length cap, undef, Value.bool false, Value.pointer (some { block := p, off := 0 }), Value.int IntKind.i64 c, Value.int IntKind.i64 h, Value.slice (some { block := gK, off := 0 }) 9 cK, Value.int IntKind.i64 9, Value.pointer (some { block := pb, off := 0 }), Value.pointer (some { block := qb, off := 0 }), Value.pointer (some { block := sb, off := 0 }), Value.int IntKind.i64 ↑k, Value.int IntKind.i64 x, Value.int IntKind.i64 y, undef, undef, undef, undef, undef, undef, undef, undef, undef, undef, undef, Value.slice a0 xs.length cap, Value.pointer (some { block := p, off := 0 }), Value.pointer (some { block := p, off := 0 }), Value.int IntKind.i64 m5, Value.int IntKind.i64 c, Value.pointer (some { block := p, off := 0 }), Value.int IntKind.i64 m4, Value.int IntKind.i64 h, Value.int IntKind.i64 9, Value.bool false, u35, u36, u37, u38, u39, u40, u41, Value.int IntKind.i64 c, Value.int IntKind.i64 h, Value.agg #[Value.int IntKind.i64 c, Value.int IntKind.i64 h, Value.int IntKind.i64 1000, Value.slice none 0 0], Value.int IntKind.i64 c, Value.int IntKind.i64 h, Value.agg #[Value.int IntKind.i64 c, Value.int IntKind.i64 h, Value.int IntKind.i64 1000, Value.slice none 0 0], Value.agg #[Value.int IntKind.i64 c, Value.int IntKind.i64 h, Value.int IntKind.i64 1000, Value.slice none 0 0], Value.int IntKind.i64 ↑k, Value.int IntKind.i64 c, Value.int IntKind.i64 h, Value.int IntKind.i64 ↑N, Value.bool true, u54, u55, Value.pointer (some { block := p, off := 0 }), Value.int IntKind.i64 x, Value.pointer (some { block := p, off := 0 }), Value.int IntKind.i64 y, Value.pointer (some { block := pb, off := 3 }), vP, Value.int IntKind.i64 x, .slice (some ⟨t1, 0, none⟩) 1 1, u64, Value.pointer (some { block := qb, off := 3 }), vQ, Value.int IntKind.i64 y, u68, u69, Value.pointer (some { block := sb, off := 3 }), vR, Value.int IntKind.i64 x, Value.int IntKind.i64 y, Value.int IntKind.i64 z, .slice (some ⟨t3, 0, none⟩) 1 1, u76, u77, u78, u79, undef, undef, undef, undef, undef, undef, undef, undef, undef, undef, undef, undef, undef, undef, undef, undef, undef, undef, undef, undef, undef, undef, undef, undef, undef, undef, undef, undef, undef, undef, undef, undef, undef, undef, undef, undef, undef, undef, undef, undef, undef, undef, undef, undef, undef, undef, undef, undef, undef, undef, undef, undef, undef, undef, undef, undef, undef, undef, undef, undef, undef, undef, undef, undef, undef, undef, undef, undef, undef, undef, undef, undef, undef, undef, undef, undef, undef, undef, undef, undef, undef, undef, undef, undef, undef, undef, undef, undef, undef, undef, undef, undef, undef, undef, undef, undef, undef, undef, undef, undef, undef, undef, undef, undef, undef, undef, undef, undef, undef], defers := [] } wx) := Lib.hid (by
            intro t1 t3 wx  hS
            refine hto.out _ _ _ _ ?_
            refine wpAnyL_ready (rs := [4, 8]) (by kernel_rfl) (by simp) (AllReadyL.cons rfl (fun KQ hKQ => ?_) (AllReadyL.cons rfl (fun KQ hKQ => ?_) AllReadyL.nil))
            · replace hS := Lib.hid (hS.out.pull 1 rfl rfl)
              replace hS := Lib.hid (hS.out.pull 2 rfl rfl)
              have hnews : ∀ j u, ([.int .i64 x] : List Value)[j]? = some u → wx.cell? ((⟨t1, 0, none⟩ : Addr).add j) = some u := one_news (hS.out.ro.ok ⟨.slice (some ⟨t1, 0, none⟩) 1 1, [x]⟩ (by simp))
              refine Eq.mpr (if_pos (by kernel_rfl)) ?_
              refine wp_append_lies _ (.tmp 61) (.tmp 63) 22 rfl B 3 j0 (.int .i64 0) 1 8 Try.underlying22 hj'.out hj0'.out hj1'.out hj2'.out rfl (by decide) vP k (ints P) rfl (own_at HL.out.1 (hS.out.ro.ok ⟨vP, P⟩ (by simp))) ⟨t1, 0, none⟩ 1 1 [.int .i64 x] rfl rfl hnews (by intro u hu; simp at hu; subst hu; rfl) (by decide) hKM.out.1 hKM.out.2 hS.out.lo.2.2 wx.heap.size rfl ?_
              intro g1 d1 wn hown hgrow hat hlB
              have hSn := hS.out.app (by rw [HL.out.1]; exact hown) hgrow hat rfl rfl
              replace hS := Lib.hid hSn
              clear hSn hnews hown hgrow hat hlB
              replace hS := Lib.hid (hS.out.pull 1 rfl rfl)
              replace hS := Lib.hid (hS.out.pull 1 rfl rfl)
              replace hS := Lib.hid (hS.out.pull 2 rfl rfl)
              refine hKQ.out _ _ (fun _ => ⟨⟨_, ln_of hS.out⟩, rfl⟩) (fun _ => ?_)
              (try simp only [Act.put, List.getElem_cons_succ, List.getElem_cons_zero, List.setIfInBounds_toArray, List.set_cons_zero, List.set_cons_succ])
              change wpAnyL _ _ _ _ _ _ _ _ { tmps := #[Value.slice a0 xs.length cap, undef, Value.bool false, Value.pointer (some { block := p, off := 0 }), Value.int IntKind.i64 c, Value.int IntKind.i64 h, Value.slice (some { block := gK, off := 0 }) 9 cK, Value.int IntKind.i64 9, Value.pointer (some { block := pb, off := 0 }), Value.pointer (some { block := qb, off := 0 }), Value.pointer (some { block := sb, off := 0 }), Value.int IntKind.i64 ↑k, Value.int IntKind.i64 x, Value.int IntKind.i64 y, undef, undef, undef, undef, undef, undef, undef, undef, undef, undef, undef, Value.slice a0 xs.length cap, Value.pointer (some { block := p, off := 0 }), Value.pointer (some { block := p, off := 0 }), Value.int IntKind.i64 m5, Value.int IntKind.i64 c, Value.pointer (some { block := p, off := 0 }), Value.int IntKind.i64 m4, Value.int IntKind.i64 h, Value.int IntKind.i64 9, Value.bool false, u35, u36, u37, u38, u39, u40, u41, Value.int IntKind.i64 c, Value.int IntKind.i64 h, Value.agg #[Value.int IntKind.i64 c, Value.int IntKind.i64 h, Value.int IntKind.i64 1000, Value.slice none 0 0], Value.int IntKind.i64 c, Value.int IntKind.i64 h, Value.agg #[Value.int IntKind.i64 c, Value.int IntKind.i64 h, Value.int IntKind.i64 1000, Value.slice none 0 0], Value.agg #[Value.int IntKind.i64 c, Value.int IntKind.i64 h, Value.int IntKind.i64 1000, Value.slice none 0 0], Value.int IntKind.i64 ↑k, Value.int IntKind.i64 c, Value.int IntKind.i64 h, Value.int IntKind.i64 ↑N, Value.bool true, u54, u55, Value.pointer (some { block := p, off := 0 }), Value.int IntKind.i64 x, Value.pointer (some { block := p, off := 0 }), Value.int IntKind.i64 y, Value.pointer (some { block := pb, off := 3 }), vP, Value.int IntKind.i64 x, .slice (some ⟨t1, 0, none⟩) 1 1, .slice (some ⟨g1, 0, none⟩) (k + 1) d1, Value.pointer (some { block := qb, off := 3 }), vQ, Value.int IntKind.i64 y, u68, u69, Value.pointer (some { block := sb, off := 3 }), vR, Value.int IntKind.i64 x, Value.int IntKind.i64 y, Value.int IntKind.i64 z, .slice (some ⟨t3, 0, none⟩) 1 1, u76, u77, u78, u79, undef, undef, undef, undef, undef, undef, undef, undef, undef, undef, undef, undef, undef, undef, undef, undef, undef, undef, undef, undef, undef, undef, undef, undef, undef, undef, undef, undef, undef, undef, undef, undef, undef, undef, undef, undef, undef, undef, undef, undef, undef, undef, undef, undef, undef, undef, undef, undef, undef, undef, undef, undef, undef, undef, undef, undef, undef, undef, undef, undef, undef, undef, undef, undef, undef, undef, undef, undef, undef, undef, undef, undef, undef, undef, undef, undef, undef, undef, undef, undef, undef, undef, undef, undef, undef, undef, undef, undef, undef, undef, undef, undef, undef, undef, undef, undef, undef, undef, undef, undef, undef, undef, undef, undef, undef, undef, undef, undef, undef], defers := [] } _
              refine held_runL 1 17 8 rfl (by decide) (by kernel_rfl) (by kernel_rfl) (by kernel_rfl) (by kernel_rfl) (by kernel_rfl) (by kernel_rfl) (fun _ _ _ _ _ h => h) ⟨⟨_, ln_of hS.out⟩, rfl⟩ ?_
              simp only [List.take_succ_cons, List.take_zero, List.drop_succ_cons, List.drop_zero]
              repeat (go_big_quiet_step (fail))
              refine wpQuiet_nil ?_
              (try simp only [Act.put, List.getElem_cons_succ, List.getElem_cons_zero, List.setIfInBounds_toArray, List.set_cons_zero, List.set_cons_succ])
              exact hfr.out _ _ _ _ (N3_4_15.out t1 g1 d1 t3 wn  hS)
            · go_simp
              (try go_wp2_with fail)
              have hSn := hS.out.new y
              obtain ⟨t2, eb⟩ : ∃ b, wx.heap.size = b := ⟨_, rfl⟩
              obtain ⟨wn, ew⟩ : ∃ b, wx.alloc (.cells #[.int .i64 y] 3) = b := ⟨_, rfl⟩
              rw [ew, eb] at hSn
              simp only [ew, eb]
              replace hS := Lib.hid hSn
              clear hSn ew eb
              replace hS := Lib.hid (hS.out.pull 1 rfl rfl)
              refine hKQ.out _ _ (fun _ => ⟨⟨_, ln_of hS.out⟩, rfl⟩) (fun _ => ?_)
              (try simp only [Act.put, List.getElem_cons_succ, List.getElem_cons_zero, List.setIfInBounds_toArray, List.set_cons_zero, List.set_cons_succ])
              exact hfr.out _ _ _ _ (N3_8_15.out t1 t2 t3 wn  hS))
          have N8_15 : Hid (∀ (t2 : Nat) (t3 : Nat) (wx : World), Hid (Lr W p a0 cap xs [.box sb (.int .i64 c) (.int .i64 h) (.int .i64 1000) vR, .box qb (.int .i64 c) (.int .i64 h) (.int .i64 1000) vQ, .box pb (.int .i64 c) (.int .i64 h) (.int .i64 1000) vP, .pix gK cK K] B [⟨.slice (some ⟨t3, 0, none⟩) 1 1, [z]⟩, ⟨.slice (some ⟨t2, 0, none⟩) 1 1, [y]⟩, ⟨vP, P⟩, ⟨vQ, Q⟩, ⟨vR, R⟩] wx) → F 10 #[true, true, true, false, false, true, true, true, true, false, true, true, true, true, true, true, false, false, false, false, false, false, false] { tmps := #[Value.slice a0 xs.length cap, undef, Value.bool false, Value.pointer (some { block := p, off := 0 }), Value.int IntKind.i64 c, Value.int IntKind.i64 h, Value.slice (some { block := gK, off := 0 }) 9 cK, Value.int IntKind.i64 9, Value.pointer (some { block := pb, off := 0 }), Value.pointer (some { block := qb, off := 0 }), Value.pointer (some { block := sb, off := 0 }), Value.int IntKind.i64 ↑k, Value.int IntKind.i64 x, Value.int IntKind.i64 y, undef, undef, undef, undef, undef, undef, undef, undef, undef, undef, undef, Value.slice a0 xs.length cap, Value.pointer (some { block := p, off := 0 }), Value.pointer (some { block := p, off := 0 }), Value.int IntKind.i64 m5, Value.int IntKind.i64 c, Value.pointer (some { block := p, off := 0 }), Value.int IntKind.i64 m4, Value.int IntKind.i64 h, Value.int IntKind.i64 9, Value.bool false, u35, u36, u37, u38, u39, u40, u41, Value.int IntKind.i64 c, Value.int IntKind.i64 h, Value.agg #[Value.int IntKind.i64 c, Value.int IntKind.i64 h, Value.int IntKind.i64 1000, Value.slice none 0 0], Value.int IntKind.i64 c, Value.int IntKind.i64 h, Value.agg #[Value.int IntKind.i64 c, Value.int IntKind.i64 h, Value.int IntKind.i64 1000, Value.slice none 0 0], Value.agg #[Value.int IntKind.i64 c, Value.int IntKind.i64 h, Value.int IntKind.i64 1000, Value.slice none 0 0], Value.int IntKind.i64 ↑k, Value.int IntKind.i64 c, Value.int IntKind.i64 h, Value.int IntKind.i64 ↑N, Value.bool true, u54, u55, Value.pointer (some { block := p, off := 0 }), Value.int IntKind.i64 x, Value.pointer (some { block := p, off := 0 }), Value.int IntKind.i64 y, Value.pointer (some { block := pb, off := 3 }), vP, Value.int IntKind.i64 x, u63, u64, Value.pointer (some { block := qb, off := 3 }), vQ, Value.int IntKind.i64 y, .slice (some ⟨t2, 0, none⟩) 1 1, u69, Value.pointer (some { block := sb, off := 3 }), vR, Value.int IntKind.i64 x, Value.int IntKind.i64 y, Value.int IntKind.i64 z, .slice (some ⟨t3, 0, none⟩) 1 1, u76, u77, u78, u79, undef, undef, undef, undef, undef, undef, undef, undef, undef, undef, undef, undef, undef, undef, undef, undef, undef, undef, undef, undef, undef, undef, undef, undef, undef, undef, undef, undef, undef, undef, undef, undef, undef, undef, undef, undef, undef, undef, undef, undef, undef, undef, undef, undef, undef, undef, undef, undef, undef, undef, undef, undef, undef, undef, undef, undef, undef, undef, undef, undef, undef, undef, undef, undef, undef, undef, undef, undef, undef, undef, undef, undef, undef, undef, undef, undef, undef, undef, undef, undef, undef, undef, undef, undef, undef, undef, undef, undef, undef, undef, undef, undef, undef, undef, undef, undef, undef, undef, undef, undef, undef, undef, undef, undef, undef, undef, undef, undef, undef], defers := [] } wx) := Lib.hid (by
            intro t2 t3 wx  hS
            refine hto.out _ _ _ _ ?_
            refine wpAnyL_ready (rs := [3]) (by kernel_rfl) (by simp) (AllReadyL.cons rfl (fun KQ hKQ => ?_) AllReadyL.nil)
            go_simp
            (try go_wp2_with fail)
            have hSn := hS.out.new x
            obtain ⟨t1, eb⟩ : ∃ b, wx.heap.size = b := ⟨_, rfl⟩
            obtain ⟨wn, ew⟩ : ∃ b, wx.alloc (.cells #[.int .i64 x] 3) = b := ⟨_, rfl⟩
            rw [ew, eb] at hSn
            simp only [ew, eb]
            replace hS := Lib.hid hSn
            clear hSn ew eb
            replace hS := Lib.hid (hS.out.pull 2 rfl rfl)
            replace hS := Lib.hid (hS.out.pull 2 rfl rfl)
            refine hKQ.out _ _ (fun _ => ⟨⟨_, ln_of hS.out⟩, rfl⟩) (fun _ => ?_)
            (try simp only [Act.put, List.getElem_cons_succ, List.getElem_cons_zero, List.setIfInBounds_toArray, List.set_cons_zero, List.set_cons_succ])
            exact hfr.out _ _ _ _ (N3_8_15.out t1 t2 t3 wn  hS))
          have N3 : Hid (∀ (t1 : Nat) (wx : World), Hid (Lr W p a0 cap xs [.box sb (.int .i64 c) (.int .i64 h) (.int .i64 1000) vR, .box qb (.int .i64 c) (.int .i64 h) (.int .i64 1000) vQ, .box pb (.int .i64 c) (.int .i64 h) (.int .i64 1000) vP, .pix gK cK K] B [⟨.slice (some ⟨t1, 0, none⟩) 1 1, [x]⟩, ⟨vP, P⟩, ⟨vQ, Q⟩, ⟨vR, R⟩] wx) → F 11 #[true, true, true, true, false, true, true, true, false, false, true, true, true, true, true, false, false, false, false, false, false, false, false] { tmps := #[Value.slice a0 xs.length cap, undef, Value.bool false, Value.pointer (some { block := p, off := 0 }), Value.int IntKind.i64 c, Value.int IntKind.i64 h, Value.slice (some { block := gK, off := 0 }) 9 cK, Value.int IntKind.i64 9, Value.pointer (some { block := pb, off := 0 }), Value.pointer (some { block := qb, off := 0 }), Value.pointer (some { block := sb, off := 0 }), Value.int IntKind.i64 ↑k, Value.int IntKind.i64 x, Value.int IntKind.i64 y, undef, undef, undef, undef, undef, undef, undef, undef, undef, undef, undef, Value.slice a0 xs.length cap, Value.pointer (some { block := p, off := 0 }), Value.pointer (some { block := p, off := 0 }), Value.int IntKind.i64 m5, Value.int IntKind.i64 c, Value.pointer (some { block := p, off := 0 }), Value.int IntKind.i64 m4, Value.int IntKind.i64 h, Value.int IntKind.i64 9, Value.bool false, u35, u36, u37, u38, u39, u40, u41, Value.int IntKind.i64 c, Value.int IntKind.i64 h, Value.agg #[Value.int IntKind.i64 c, Value.int IntKind.i64 h, Value.int IntKind.i64 1000, Value.slice none 0 0], Value.int IntKind.i64 c, Value.int IntKind.i64 h, Value.agg #[Value.int IntKind.i64 c, Value.int IntKind.i64 h, Value.int IntKind.i64 1000, Value.slice none 0 0], Value.agg #[Value.int IntKind.i64 c, Value.int IntKind.i64 h, Value.int IntKind.i64 1000, Value.slice none 0 0], Value.int IntKind.i64 ↑k, Value.int IntKind.i64 c, Value.int IntKind.i64 h, Value.int IntKind.i64 ↑N, Value.bool true, u54, u55, Value.pointer (some { block := p, off := 0 }), Value.int IntKind.i64 x, Value.pointer (some { block := p, off := 0 }), Value.int IntKind.i64 y, Value.pointer (some { block := pb, off := 3 }), vP, Value.int IntKind.i64 x, .slice (some ⟨t1, 0, none⟩) 1 1, u64, Value.pointer (some { block := qb, off := 3 }), vQ, Value.int IntKind.i64 y, u68, u69, Value.pointer (some { block := sb, off := 3 }), vR, Value.int IntKind.i64 x, Value.int IntKind.i64 y, Value.int IntKind.i64 z, u75, u76, u77, u78, u79, undef, undef, undef, undef, undef, undef, undef, undef, undef, undef, undef, undef, undef, undef, undef, undef, undef, undef, undef, undef, undef, undef, undef, undef, undef, undef, undef, undef, undef, undef, undef, undef, undef, undef, undef, undef, undef, undef, undef, undef, undef, undef, undef, undef, undef, undef, undef, undef, undef, undef, undef, undef, undef, undef, undef, undef, undef, undef, undef, undef, undef, undef, undef, undef, undef, undef, undef, undef, undef, undef, undef, undef, undef, undef, undef, undef, undef, undef, undef, undef, undef, undef, undef, undef, undef, undef, undef, undef, undef, undef, undef, undef, undef, undef, undef, undef, undef, undef, undef, undef, undef, undef, undef, undef, undef, undef, undef, undef, undef], defers := [] } wx) := Lib.hid (by
            intro t1 wx  hS
            refine hto.out _ _ _ _ ?_
            refine wpAnyL_ready (rs := [4, 8, 15]) (by kernel_rfl) (by simp) (AllReadyL.cons rfl (fun KQ hKQ => ?_) (AllReadyL.cons rfl (fun KQ hKQ => ?_) (AllReadyL.cons rfl (fun KQ hKQ => ?_) AllReadyL.nil)))
            · replace hS := Lib.hid (hS.out.pull 1 rfl rfl)
              have hnews : ∀ j u, ([.int .i64 x] : List Value)[j]? = some u → wx.cell? ((⟨t1, 0, none⟩ : Addr).add j) = some u := one_news (hS.out.ro.ok ⟨.slice (some ⟨t1, 0, none⟩) 1 1, [x]⟩ (by simp))
              refine Eq.mpr (if_pos (by kernel_rfl)) ?_
              refine wp_append_lies _ (.tmp 61) (.tmp 63) 22 rfl B 3 j0 (.int .i64 0) 1 8 Try.underlying22 hj'.out hj0'.out hj1'.out hj2'.out rfl (by decide) vP k (ints P) rfl (own_at HL.out.1 (hS.out.ro.ok ⟨vP, P⟩ (by simp))) ⟨t1, 0, none⟩ 1 1 [.int .i64 x] rfl rfl hnews (by intro u hu; simp at hu; subst hu; rfl) (by decide) hKM.out.1 hKM.out.2 hS.out.lo.2.2 wx.heap.size rfl ?_
              intro g1 d1 wn hown hgrow hat hlB
              have hSn := hS.out.app (by rw [HL.out.1]; exact hown) hgrow hat rfl rfl
              replace hS := Lib.hid hSn
              clear hSn hnews hown hgrow hat hlB
              refine hKQ.out _ _ (fun _ => ⟨⟨_, ln_of hS.out⟩, rfl⟩) (fun _ => ?_)
              (try simp only [Act.put, List.getElem_cons_succ, List.getElem_cons_zero, List.setIfInBounds_toArray, List.set_cons_zero, List.set_cons_succ])
              change wpAnyL _ _ _ _ _ _ _ _ { tmps := #[Value.slice a0 xs.length cap, undef, Value.bool false, Value.pointer (some { block := p, off := 0 }), Value.int IntKind.i64 c, Value.int IntKind.i64 h, Value.slice (some { block := gK, off := 0 }) 9 cK, Value.int IntKind.i64 9, Value.pointer (some { block := pb, off := 0 }), Value.pointer (some { block := qb, off := 0 }), Value.pointer (some { block := sb, off := 0 }), Value.int IntKind.i64 ↑k, Value.int IntKind.i64 x, Value.int IntKind.i64 y, undef, undef, undef, undef, undef, undef, undef, undef, undef, undef, undef, Value.slice a0 xs.length cap, Value.pointer (some { block := p, off := 0 }), Value.pointer (some { block := p, off := 0 }), Value.int IntKind.i64 m5, Value.int IntKind.i64 c, Value.pointer (some { block := p, off := 0 }), Value.int IntKind.i64 m4, Value.int IntKind.i64 h, Value.int IntKind.i64 9, Value.bool false, u35, u36, u37, u38, u39, u40, u41, Value.int IntKind.i64 c, Value.int IntKind.i64 h, Value.agg #[Value.int IntKind.i64 c, Value.int IntKind.i64 h, Value.int IntKind.i64 1000, Value.slice none 0 0], Value.int IntKind.i64 c, Value.int IntKind.i64 h, Value.agg #[Value.int IntKind.i64 c, Value.int IntKind.i64 h, Value.int IntKind.i64 1000, Value.slice none 0 0], Value.agg #[Value.int IntKind.i64 c, Value.int IntKind.i64 h, Value.int IntKind.i64 1000, Value.slice none 0 0], Value.int IntKind.i64 ↑k, Value.int IntKind.i64 c, Value.int IntKind.i64 h, Value.int IntKind.i64 ↑N, Value.bool true, u54, u55, Value.pointer (some { block := p, off := 0 }), Value.int IntKind.i64 x, Value.pointer (some { block := p, off := 0 }), Value.int IntKind.i64 y, Value.pointer (some { block := pb, off := 3 }), vP, Value.int IntKind.i64 x, .slice (some ⟨t1, 0, none⟩) 1 1, .slice (some ⟨g1, 0, none⟩) (k + 1) d1, Value.pointer (some { block := qb, off := 3 }), vQ, Value.int IntKind.i64 y, u68, u69, Value.pointer (some { block := sb, off := 3 }), vR, Value.int IntKind.i64 x, Value.int IntKind.i64 y, Value.int IntKind.i64 z, u75, u76, u77, u78, u79, undef, undef, undef, undef, undef, undef, undef, undef, undef, undef, undef, undef, undef, undef, undef, undef, undef, undef, undef, undef, undef, undef, undef, undef, undef, undef, undef, undef, undef, undef, undef, undef, undef, undef, undef, undef, undef, undef, undef, undef, undef, undef, undef, undef, undef, undef, undef, undef, undef, undef, undef, undef, undef, undef, undef, undef, undef, undef, undef, undef, undef, undef, undef, undef, undef, undef, undef, undef, undef, undef, undef, undef, undef, undef, undef, undef, undef, undef, undef, undef, undef, undef, undef, undef, undef, undef, undef, undef, undef, undef, undef, undef, undef, undef, undef, undef, undef, undef, undef, undef, undef, undef, undef, undef, undef, undef, undef, undef, undef], defers := [] } _
              refine held_runL 1 17 9 rfl (by decide) (by kernel_rfl) (by kernel_rfl) (by kernel_rfl) (by kernel_rfl) (by kernel_rfl) (by kernel_rfl) (fun _ _ _ _ _ h => h) ⟨⟨_, ln_of hS.out⟩, rfl⟩ ?_
              simp only [List.take_succ_cons, List.take_zero, List.drop_succ_cons, List.drop_zero]
              repeat (go_big_quiet_step (fail))
              refine wpQuiet_nil ?_
              (try simp only [Act.put, List.getElem_cons_succ, List.getElem_cons_zero, List.setIfInBounds_toArray, List.set_cons_zero, List.set_cons_succ])
              exact hfr.out _ _ _ _ (N3_4.out t1 g1 d1 wn  hS)
            · go_simp
              (try go_wp2_with fail)
              have hSn := hS.out.new y
              obtain ⟨t2, eb⟩ : ∃ b, wx.heap.size = b := ⟨_, rfl⟩
              obtain ⟨wn, ew⟩ : ∃ b, wx.alloc (.cells #[.int .i64 y] 3) = b := ⟨_, rfl⟩
              rw [ew, eb] at hSn
              simp only [ew, eb]
              replace hS := Lib.hid hSn
              clear hSn ew eb
              refine hKQ.out _ _ (fun _ => ⟨⟨_, ln_of hS.out⟩, rfl⟩) (fun _ => ?_)
              (try simp only [Act.put, List.getElem_cons_succ, List.getElem_cons_zero, List.setIfInBounds_toArray, List.set_cons_zero, List.set_cons_succ])
              exact hfr.out _ _ _ _ (N3_8.out t1 t2 wn  hS)
            · go_simp
              (try go_wp2_with fail)
              have hSn := hS.out.new z
              obtain ⟨t3, eb⟩ : ∃ b, wx.heap.size = b := ⟨_, rfl⟩
              obtain ⟨wn, ew⟩ : ∃ b, wx.alloc (.cells #[.int .i64 z] 3) = b := ⟨_, rfl⟩
              rw [ew, eb] at hSn
              simp only [ew, eb]
              replace hS := Lib.hid hSn
              clear hSn ew eb
              refine hKQ.out _ _ (fun _ => ⟨⟨_, ln_of hS.out⟩, rfl⟩) (fun _ => ?_)
              (try simp only [Act.put, List.getElem_cons_succ, List.getElem_cons_zero, List.setIfInBounds_toArray, List.set_cons_zero, List.set_cons_succ])
              exact hfr.out _ _ _ _ (N3_15.out t1 t3 wn  hS))
          have N8 : Hid (∀ (t2 : Nat) (wx : World), Hid (Lr W p a0 cap xs [.box sb (.int .i64 c) (.int .i64 h) (.int .i64 1000) vR, .box qb (.int .i64 c) (.int .i64 h) (.int .i64 1000) vQ, .box pb (.int .i64 c) (.int .i64 h) (.int .i64 1000) vP, .pix gK cK K] B [⟨.slice (some ⟨t2, 0, none⟩) 1 1, [y]⟩, ⟨vP, P⟩, ⟨vQ, Q⟩, ⟨vR, R⟩] wx) → F 11 #[true, true, true, false, false, true, true, true, true, false, true, true, true, true, true, false, false, false, false, false, false, false, false] { tmps := #[Value.slice a0 xs.length cap, undef, Value.bool false, Value.pointer (some { block := p, off := 0 }), Value.int IntKind.i64 c, Value.int IntKind.i64 h, Value.slice (some { block := gK, off := 0 }) 9 cK, Value.int IntKind.i64 9, Value.pointer (some { block := pb, off := 0 }), Value.pointer (some { block := qb, off := 0 }), Value.pointer (some { block := sb, off := 0 }), Value.int IntKind.i64 ↑k, Value.int IntKind.i64 x, Value.int IntKind.i64 y, undef, undef, undef, undef, undef, undef, undef, undef, undef, undef, undef, Value.slice a0 xs.length cap, Value.pointer (some { block := p, off := 0 }), Value.pointer (some { block := p, off := 0 }), Value.int IntKind.i64 m5, Value.int IntKind.i64 c, Value.pointer (some { block := p, off := 0 }), Value.int IntKind.i64 m4, Value.int IntKind.i64 h, Value.int IntKind.i64 9, Value.bool false, u35, u36, u37, u38, u39, u40, u41, Value.int IntKind.i64 c, Value.int IntKind.i64 h, Value.agg #[Value.int IntKind.i64 c, Value.int IntKind.i64 h, Value.int IntKind.i64 1000, Value.slice none 0 0], Value.int IntKind.i64 c, Value.int IntKind.i64 h, Value.agg #[Value.int IntKind.i64 c, Value.int IntKind.i64 h, Value.int IntKind.i64 1000, Value.slice none 0 0], Value.agg #[Value.int IntKind.i64 c, Value.int IntKind.i64 h, Value.int IntKind.i64 1000, Value.slice none 0 0], Value.int IntKind.i64 ↑k, Value.int IntKind.i64 c, Value.int IntKind.i64 h, Value.int IntKind.i64 ↑N, Value.bool true, u54, u55, Value.pointer (some { block := p, off := 0 }), Value.int IntKind.i64 x, Value.pointer (some { block := p, off := 0 }), Value.int IntKind.i64 y, Value.pointer (some { block := pb, off := 3 }), vP, Value.int IntKind.i64 x, u63, u64, Value.pointer (some { block := qb, off := 3 }), vQ, Value.int IntKind.i64 y, .slice (some ⟨t2, 0, none⟩) 1 1, u69, Value.pointer (some { block := sb, off := 3 }), vR, Value.int IntKind.i64 x, Value.int IntKind.i64 y, Value.int IntKind.i64 z, u75, u76, u77, u78, u79, undef, undef, undef, undef, undef, undef, undef, undef, undef, undef, undef, undef, undef, undef, undef, undef, undef, undef, undef, undef, undef, undef, undef, undef, undef, undef, undef, undef, undef, undef, undef, undef, undef, undef, undef, undef, undef, undef, undef, undef, undef, undef, undef, undef, undef, undef, undef, undef, undef, undef, undef, undef, undef, undef, undef, undef, undef, undef, undef, undef, undef, undef, undef, undef, undef, undef, undef, undef, undef, undef, undef, undef, undef, undef, undef, undef, undef, undef, undef, undef, undef, undef, undef, undef, undef, undef, undef, undef, undef, undef, undef, undef, undef, undef, undef, undef, undef, undef, undef, undef, undef, undef, undef, undef, undef, undef, undef, undef, undef], defers := [] } wx) := Lib.hid (by
            intro t2 wx  hS
            refine hto.out _ _ _ _ ?_
            refine wpAnyL_ready (rs := [3, 15]) (by kernel_rfl) (by simp) (AllReadyL.cons rfl (fun KQ hKQ => ?_) (AllReadyL.cons rfl (fun KQ hKQ => ?_) AllReadyL.nil))
            · go_simp
              (try go_wp2_with fail)
              have hSn := hS.out.new x
              obtain ⟨t1, eb⟩ : ∃ b, wx.heap.size = b := ⟨_, rfl⟩
              obtain ⟨wn, ew⟩ : ∃ b, wx.alloc (.cells #[.int .i64 x] 3) = b := ⟨_, rfl⟩
              rw [ew, eb] at hSn
              simp only [ew, eb]
              replace hS := Lib.hid hSn
              clear hSn ew eb
              replace hS := Lib.hid (hS.out.pull 1 rfl rfl)
              refine hKQ.out _ _ (fun _ => ⟨⟨_, ln_of hS.out⟩, rfl⟩) (fun _ => ?_)
              (try simp only [Act.put, List.getElem_cons_succ, List.getElem_cons_zero, List.setIfInBounds_toArray, List.set_cons_zero, List.set_cons_succ])
              exact hfr.out _ _ _ _ (N3_8.out t1 t2 wn  hS)
            · go_simp
              (try go_wp2_with fail)
              have hSn := hS.out.new z
              obtain ⟨t3, eb⟩ : ∃ b, wx.heap.size = b := ⟨_, rfl⟩
              obtain ⟨wn, ew⟩ : ∃ b, wx.alloc (.cells #[.int .i64 z] 3) = b := ⟨_, rfl⟩
              rw [ew, eb] at hSn
              simp only [ew, eb]
              replace hS := Lib.hid hSn
              clear hSn ew eb
              refine hKQ.out _ _ (fun _ => ⟨⟨_, ln_of hS.out⟩, rfl⟩) (fun _ => ?_)
              (try simp only [Act.put, List.getElem_cons_succ, List.getElem_cons_zero, List.setIfInBounds_toArray, List.set_cons_zero, List.set_cons_succ])
              exact hfr.out _ _ _ _ (N8_15.out t2 t3 wn  hS))
          have N15 : Hid (∀ (t3 : Nat) (wx : World), Hid (Lr W p a0 cap xs [.box sb (.int .i64 c) (.int .i64 h) (.int .i64 1000) vR, .box qb (.int .i64 c) (.int .i64 h) (.int .i64 1000) vQ, .box pb (.int .i64 c) (.int .i64 h) (.int .i64 1000) vP, .pix gK cK K] B [⟨.slice (some ⟨t3, 0, none⟩) 1 1, [z]⟩, ⟨vP, P⟩, ⟨vQ, Q⟩, ⟨vR, R⟩] wx) → F 11 #[true, true, true, false, false, true, true, true, false, false, true, true, true, true, true, true, false, false, false, false, false, false, false] { tmps := #[Value.slice a0 xs.length cap, undef, Value.bool false, Value.pointer (some { block := p, off := 0 }), Value.int IntKind.i64 c, Value.int IntKind.i64 h, Value.slice (some { block := gK, off := 0 }) 9 cK, Value.int IntKind.i64 9, Value.pointer (some { block := pb, off := 0 }), Value.pointer (some { block := qb, off := 0 }), Value.pointer (some { block := sb, off := 0 }), Value.int IntKind.i64 ↑k, Value.int IntKind.i64 x, Value.int IntKind.i64 y, undef, undef, undef, undef, undef, undef, undef, undef, undef, undef, undef, Value.slice a0 xs.length cap, Value.pointer (some { block := p, off := 0 }), Value.pointer (some { block := p, off := 0 }), Value.int IntKind.i64 m5, Value.int IntKind.i64 c, Value.pointer (some { block := p, off := 0 }), Value.int IntKind.i64 m4, Value.int IntKind.i64 h, Value.int IntKind.i64 9, Value.bool false, u35, u36, u37, u38, u39, u40, u41, Value.int IntKind.i64 c, Value.int IntKind.i64 h, Value.agg #[Value.int IntKind.i64 c, Value.int IntKind.i64 h, Value.int IntKind.i64 1000, Value.slice none 0 0], Value.int IntKind.i64 c, Value.int IntKind.i64 h, Value.agg #[Value.int IntKind.i64 c, Value.int IntKind.i64 h, Value.int IntKind.i64 1000, Value.slice none 0 0], Value.agg #[Value.int IntKind.i64 c, Value.int IntKind.i64 h, Value.int IntKind.i64 1000, Value.slice none 0 0], Value.int IntKind.i64 ↑k, Value.int IntKind.i64 c, Value.int IntKind.i64 h, Value.int IntKind.i64 ↑N, Value.bool true, u54, u55, Value.pointer (some { block := p, off := 0 }), Value.int IntKind.i64 x, Value.pointer (some { block := p, off := 0 }), Value.int IntKind.i64 y, Value.pointer (some { block := pb, off := 3 }), vP, Value.int IntKind.i64 x, u63, u64, Value.pointer (some { block := qb, off := 3 }), vQ, Value.int IntKind.i64 y, u68, u69, Value.pointer (some { block := sb, off := 3 }), vR, Value.int IntKind.i64 x, Value.int IntKind.i64 y, Value.int IntKind.i64 z, .slice (some ⟨t3, 0, none⟩) 1 1, u76, u77, u78, u79, undef, undef, undef, undef, undef, undef, undef, undef, undef, undef, undef, undef, undef, undef, undef, undef, undef, undef, undef, undef, undef, undef, undef, undef, undef, undef, undef, undef, undef, undef, undef, undef, undef, undef, undef, undef, undef, undef, undef, undef, undef, undef, undef, undef, undef, undef, undef, undef, undef, undef, undef, undef, undef, undef, undef, undef, undef, undef, undef, undef, undef, undef, undef, undef, undef, undef, undef, undef, undef, undef, undef, undef, undef, undef, undef, undef, undef, undef, undef, undef, undef, undef, undef, undef, undef, undef, undef, undef, undef, undef, undef, undef, undef, undef, undef, undef, undef, undef, undef, undef, undef, undef, undef, undef, undef, undef, undef, undef, undef], defers := [] } wx) := Lib.hid (by
            intro t3 wx  hS
            refine hto.out _ _ _ _ ?_
            refine wpAnyL_ready (rs := [3, 8]) (by kernel_rfl) (by simp) (AllReadyL.cons rfl (fun KQ hKQ => ?_) (AllReadyL.cons rfl (fun KQ hKQ => ?_) AllReadyL.nil))
            · go_simp
              (try go_wp2_with fail)
              have hSn := hS.out.new x
              obtain ⟨t1, eb⟩ : ∃ b, wx.heap.size = b := ⟨_, rfl⟩
              obtain ⟨wn, ew⟩ : ∃ b, wx.alloc (.cells #[.int .i64 x] 3) = b := ⟨_, rfl⟩
              rw [ew, eb] at hSn
              simp only [ew, eb]
              replace hS := Lib.hid hSn
              clear hSn ew eb
              replace hS := Lib.hid (hS.out.pull 1 rfl rfl)
              refine hKQ.out _ _ (fun _ => ⟨⟨_, ln_of hS.out⟩, rfl⟩) (fun _ => ?_)
              (try simp only [Act.put, List.getElem_cons_succ, List.getElem_cons_zero, List.setIfInBounds_toArray, List.set_cons_zero, List.set_cons_succ])
              exact hfr.out _ _ _ _ (N3_15.out t1 t3 wn  hS)
            · go_simp
              (try go_wp2_with fail)
              have hSn := hS.out.new y
              obtain ⟨t2, eb⟩ : ∃ b, wx.heap.size = b := ⟨_, rfl⟩
              obtain ⟨wn, ew⟩ : ∃ b, wx.alloc (.cells #[.int .i64 y] 3) = b := ⟨_, rfl⟩
              rw [ew, eb] at hSn
              simp only [ew, eb]
              replace hS := Lib.hid hSn
              clear hSn ew eb
              replace hS := Lib.hid (hS.out.pull 1 rfl rfl)
              refine hKQ.out _ _ (fun _ => ⟨⟨_, ln_of hS.out⟩, rfl⟩) (fun _ => ?_)
              (try simp only [Act.put, List.getElem_cons_succ, List.getElem_cons_zero, List.setIfInBounds_toArray, List.set_cons_zero, List.set_cons_succ])
              exact hfr.out _ _ _ _ (N8_15.out t2 t3 wn  hS))
          have N0 : Hid (∀ (wx : World), Hid (Lr W p a0 cap xs [.box sb (.int .i64 c) (.int .i64 h) (.int .i64 1000) vR, .box qb (.int .i64 c) (.int .i64 h) (.int .i64 1000) vQ, .box pb (.int .i64 c) (.int .i64 h) (.int .i64 1000) vP, .pix gK cK K] B [⟨vP, P⟩, ⟨vQ, Q⟩, ⟨vR, R⟩] wx) → F 12 #[true, true, true, false, false, true, true, true, false, false, true, true, true, true, true, false, false, false, false, false, false, false, false] { tmps := #[Value.slice a0 xs.length cap, undef, Value.bool false, Value.pointer (some { block := p, off := 0 }), Value.int IntKind.i64 c, Value.int IntKind.i64 h, Value.slice (some { block := gK, off := 0 }) 9 cK, Value.int IntKind.i64 9, Value.pointer (some { block := pb, off := 0 }), Value.pointer (some { block := qb, off := 0 }), Value.pointer (some { block := sb, off := 0 }), Value.int IntKind.i64 ↑k, Value.int IntKind.i64 x, Value.int IntKind.i64 y, undef, undef, undef, undef, undef, undef, undef, undef, undef, undef, undef, Value.slice a0 xs.length cap, Value.pointer (some { block := p, off := 0 }), Value.pointer (some { block := p, off := 0 }), Value.int IntKind.i64 m5, Value.int IntKind.i64 c, Value.pointer (some { block := p, off := 0 }), Value.int IntKind.i64 m4, Value.int IntKind.i64 h, Value.int IntKind.i64 9, Value.bool false, u35, u36, u37, u38, u39, u40, u41, Value.int IntKind.i64 c, Value.int IntKind.i64 h, Value.agg #[Value.int IntKind.i64 c, Value.int IntKind.i64 h, Value.int IntKind.i64 1000, Value.slice none 0 0], Value.int IntKind.i64 c, Value.int IntKind.i64 h, Value.agg #[Value.int IntKind.i64 c, Value.int IntKind.i64 h, Value.int IntKind.i64 1000, Value.slice none 0 0], Value.agg #[Value.int IntKind.i64 c, Value.int IntKind.i64 h, Value.int IntKind.i64 1000, Value.slice none 0 0], Value.int IntKind.i64 ↑k, Value.int IntKind.i64 c, Value.int IntKind.i64 h, Value.int IntKind.i64 ↑N, Value.bool true, u54, u55, Value.pointer (some { block := p, off := 0 }), Value.int IntKind.i64 x, Value.pointer (some { block := p, off := 0 }), Value.int IntKind.i64 y, Value.pointer (some { block := pb, off := 3 }), vP, Value.int IntKind.i64 x, u63, u64, Value.pointer (some { block := qb, off := 3 }), vQ, Value.int IntKind.i64 y, u68, u69, Value.pointer (some { block := sb, off := 3 }), vR, Value.int IntKind.i64 x, Value.int IntKind.i64 y, Value.int IntKind.i64 z, u75, u76, u77, u78, u79, undef, undef, undef, undef, undef, undef, undef, undef, undef, undef, undef, undef, undef, undef, undef, undef, undef, undef, undef, undef, undef, undef, undef, undef, undef, undef, undef, undef, undef, undef, undef, undef, undef, undef, undef, undef, undef, undef, undef, undef, undef, undef, undef, undef, undef, undef, undef, undef, undef, undef, undef, undef, undef, undef, undef, undef, undef, undef, undef, undef, undef, undef, undef, undef, undef, undef, undef, undef, undef, undef, undef, undef, undef, undef, undef, undef, undef, undef, undef, undef, undef, undef, undef, undef, undef, undef, undef, undef, undef, undef, undef, undef, undef, undef, undef, undef, undef, undef, undef, undef, undef, undef, undef, undef, undef, undef, undef, undef, undef], defers := [] } wx) := Lib.hid (by
            intro  wx  hS
            refine hto.out _ _ _ _ ?_
            refine wpAnyL_ready (rs := [3, 8, 15]) (by kernel_rfl) (by simp) (AllReadyL.cons rfl (fun KQ hKQ => ?_) (AllReadyL.cons rfl (fun KQ hKQ => ?_) (AllReadyL.cons rfl (fun KQ hKQ => ?_) AllReadyL.nil)))
            · go_simp
              (try go_wp2_with fail)
              have hSn := hS.out.new x
              obtain ⟨t1, eb⟩ : ∃ b, wx.heap.size = b := ⟨_, rfl⟩
              obtain ⟨wn, ew⟩ : ∃ b, wx.alloc (.cells #[.int .i64 x] 3) = b := ⟨_, rfl⟩
              rw [ew, eb] at hSn
              simp only [ew, eb]
              replace hS := Lib.hid hSn
              clear hSn ew eb
              refine hKQ.out _ _ (fun _ => ⟨⟨_, ln_of hS.out⟩, rfl⟩) (fun _ => ?_)
              (try simp only [Act.put, List.getElem_cons_succ, List.getElem_cons_zero, List.setIfInBounds_toArray, List.set_cons_zero, List.set_cons_succ])
              exact hfr.out _ _ _ _ (N3.out t1 wn  hS)
            · go_simp
              (try go_wp2_with fail)
              have hSn := hS.out.new y
              obtain ⟨t2, eb⟩ : ∃ b, wx.heap.size = b := ⟨_, rfl⟩
              obtain ⟨wn, ew⟩ : ∃ b, wx.alloc (.cells #[.int .i64 y] 3) = b := ⟨_, rfl⟩
              rw [ew, eb] at hSn
              simp only [ew, eb]
              replace hS := Lib.hid hSn
              clear hSn ew eb
              refine hKQ.out _ _ (fun _ => ⟨⟨_, ln_of hS.out⟩, rfl⟩) (fun _ => ?_)
              (try simp only [Act.put, List.getElem_cons_succ, List.getElem_cons_zero, List.setIfInBounds_toArray, List.set_cons_zero, List.set_cons_succ])
              exact hfr.out _ _ _ _ (N8.out t2 wn  hS)
            · go_simp
              (try go_wp2_with fail)
              have hSn := hS.out.new z
              obtain ⟨t3, eb⟩ : ∃ b, wx.heap.size = b := ⟨_, rfl⟩
              obtain ⟨wn, ew⟩ : ∃ b, wx.alloc (.cells #[.int .i64 z] 3) = b := ⟨_, rfl⟩
              rw [ew, eb] at hSn
              simp only [ew, eb]
              replace hS := Lib.hid hSn
              clear hSn ew eb
              refine hKQ.out _ _ (fun _ => ⟨⟨_, ln_of hS.out⟩, rfl⟩) (fun _ => ?_)
              (try simp only [Act.put, List.getElem_cons_succ, List.getElem_cons_zero, List.setIfInBounds_toArray, List.set_cons_zero, List.set_cons_succ])
              exact hfr.out _ _ _ _ (N15.out t3 wn  hS))
          exact N0.out wd hS
        · obtain rfl : k = N := by omega
          have hcN := EN.out
          have hsz : ∀ {v : Value} {L : List Int}, OwnL B wr v L → L.length = k → ∃ g cc, v = .slice (some ⟨g, 0, none⟩) k cc := by
            intro v L hO hl
            rcases hO.2 with ⟨e, hn⟩ | ⟨g, cc, cur, e, _⟩
            · have := hN.out; rw [hl] at hn; omega
            · exact ⟨g, cc, by rw [e, hl]⟩
          have oP := hS.out.ro.ok ⟨vP, P⟩ (by simp)
          have oQ := hS.out.ro.ok ⟨vQ, Q⟩ (by simp)
          have oR := hS.out.ro.ok ⟨vR, R⟩ (by simp)
          obtain ⟨gP, cP, e1⟩ := hsz oP HL.out.1
          obtain ⟨gQ, cQ, e2⟩ := hsz oQ HL.out.2.1
          obtain ⟨gR, cR, e3⟩ := hsz oR HL.out.2.2.1
          subst e1
          subst e2
          subst e3
          have xP := own_pix oP HL.out.1
          have xQ := own_pix oQ HL.out.2.1
          have xR := own_pix oR HL.out.2.2.1
          have hpB := hS.out.lo.1
          have HSL := Lib.hid (And.intro xP (And.intro xQ xR))
          have HNE := Lib.hid (show ¬ gP = p ∧ ¬ gQ = p ∧ ¬ gR = p by have h1 := xP.lt; have h2 := xQ.lt; have h3 := xR.lt; omega)
          have hbP := fun j => getD_bound HL.out.2.2.2.2.1 (by decide) j
          have hbQ := fun j => getD_bound HL.out.2.2.2.2.2 (by decide) j
          have HPP := Lib.hid (lin_plane HC.out HH.out hcN HL.out.1 (fun j => by have := hbP j; omega))
          have HPQ := Lib.hid (lin_plane HC.out HH.out hcN HL.out.2.1 (fun j => by have := hbQ j; omega))
          have HPR := Lib.hid (lin_plane HC.out HH.out hcN HL.out.2.2.1 (fun j => by have h1 := hbP j; have h2 := hbQ j; have h3 := HL.out.2.2.2.1 j; omega))
          have HADD := Lib.hid HL.out.2.2.2.1
          have EP := Lib.hid HL.out.1
          have EQ := Lib.hid HL.out.2.1
          have ER := Lib.hid HL.out.2.2.1
          have hS1 := hS.out.st
          clear hS hsz oP oQ oR xP xQ xR hpB hbP hbQ HL hcN hk hlt
          have hS := Lib.hid hS1
          clear hS1
          go_wp2_with fail
          refine (next_some W p a0 cap xs _ _ hS.out.tape (by omega) (by omega)).mono ?_; rintro e w6 ⟨q, rfl, hq, hT, hg⟩
          replace HSL := Lib.hid (show PixAt B w6 gP cP P ∧ PixAt B w6 gQ cQ Q ∧ PixAt B w6 gR cR R from ⟨HSL.out.1.grown hg (by simpa using HNE.out.1), HSL.out.2.1.grown hg (by simpa using HNE.out.2.1), HSL.out.2.2.grown hg (by simpa using HNE.out.2.2)⟩)
          have hS1 := (hS.out.draw hT hg).new2 (.int .i64 q) (.int .i64 0) 38
          have HS1 := Lib.hid hS1
          have HT6 := Lib.hid hg
          clear hS1 hT hg
          go_upto_region 16 with fail
          have hS1 := HS1.out
          obtain ⟨eb, eeb⟩ : ∃ x, w6.heap.size = x := ⟨_, rfl⟩
          obtain ⟨w8, ew8⟩ : ∃ x, w6.alloc (.cells #[.int .i64 q, .int .i64 0] 38) = x := ⟨_, rfl⟩
          have hB8 : Below w6.heap.size w6 w8 := by rw [← ew8]; exact balloc (bref w6) _
          rw [eeb, ew8] at hS1
          replace hS := Lib.hid hS1
          replace HSL := Lib.hid (show PixAt B w8 gP cP P ∧ PixAt B w8 gQ cQ Q ∧ PixAt B w8 gR cR R from ⟨HSL.out.1.below hB8, HSL.out.2.1.below hB8, HSL.out.2.2.below hB8⟩)
          have HQ := Lib.hid (show 0 ≤ q ∧ q ≤ 2 by omega)
          clear hS1 hB8 hq HS1 HT6
          simp only [eeb, ew8]
          clear eeb ew8
          have hS1 := hS.out.new (.int .i64 0) (.int .i64 0) (.int .i64 c) (.int .i64 h) 33
          obtain ⟨rb, erb⟩ : ∃ x, w8.heap.size = x := ⟨_, rfl⟩
          obtain ⟨w9, ew9⟩ : ∃ x, w8.alloc (.cells #[.int .i64 0, .int .i64 0, .int .i64 c, .int .i64 h] 33) = x := ⟨_, rfl⟩
          have hB9 : Below w8.heap.size w8 w9 := by rw [← ew9]; exact balloc (bref w8) _
          rw [erb, ew9] at hS1
          replace hS := Lib.hid hS1
          replace HSL := Lib.hid (show PixAt B w9 gP cP P ∧ PixAt B w9 gQ cQ Q ∧ PixAt B w9 gR cR R from ⟨HSL.out.1.below hB9, HSL.out.2.1.below hB9, HSL.out.2.2.below hB9⟩)
          clear hS1 hB9
          go_upto_region 17 with fail
          (try simp only [erb, ew9])
          clear erb ew9
          have hEd := Lib.hid (show edgeB q 0 1000 = true from edgeB_t.2 (by have := HQ.out; omega))
          have hKs : Small K := fun v hv => by have := HK.out v hv; omega
          have hCk := Lib.hid (show checkC 1000 3 3 K 0 1000000 = 0 from small_check (by decide) (by decide) (by decide) (by rw [hKl.out]; decide) hKs (by decide) (by decide))
          have hCk1 := Lib.hid (show checkC 1000 1 1 [1] 0 1000 = 0 from small_check (by decide) (by decide) (by decide) (by decide) (fun v hv => by simp at hv; omega) (by decide) (by decide))
          obtain ⟨C1, eC1⟩ : ∃ C, convL c h P q 0 3 3 K 0 1000000 0 0 c h = C := ⟨_, rfl⟩
          obtain ⟨C2, eC2⟩ : ∃ C, convL c h Q q 0 3 3 K 0 1000000 0 0 c h = C := ⟨_, rfl⟩
          obtain ⟨C3, eC3⟩ : ∃ C, convL c h R q 0 3 3 K 0 1000000 0 0 c h = C := ⟨_, rfl⟩
          have hlen : ∀ (L : List Int) (C : List Int), convL c h L q 0 3 3 K 0 1000000 0 0 c h = C → C.length = k := fun L C e => by
            rw [← e, convL_len, Int.sub_zero, Int.sub_zero, EN.out]; simp
          have EN1 := Lib.hid (hlen P C1 eC1)
          have EN2 := Lib.hid (hlen Q C2 eC2)
          have EN3 := Lib.hid (hlen R C3 eC3)
          have HAD := Lib.hid (fun (j : Nat) (hj : j < k) => (show C1.getD j 0 + C2.getD j 0 = C3.getD j 0 ∧ (0 ≤ C3.getD j 0 ∧ C3.getD j 0 ≤ 1000000) by
            rw [← eC1, ← eC2, ← eC3]
            exact lin_add HPP.out HPQ.out HPR.out HQ.out HK.out hKl.out HADD.out (by rw [EN.out]; omega)))
          have EO := Lib.hid (lin_one HPP.out HQ.out)
          have EC1 := Lib.hid eC1
          have EC2 := Lib.hid eC2
          have EC3 := Lib.hid eC3
          clear hlen eC1 eC2 eC3 hKs
          obtain ⟨e0, e1⟩ := hS.out.en.two eb (v0 := .int .i64 q) (v1 := .int .i64 0) (by simp)
          obtain ⟨r0, r1, r2, r3⟩ := hS.out.en.box rb (v0 := .int .i64 0) (v1 := .int .i64 0) (v2 := .int .i64 c) (v3 := .int .i64 h) (by simp)
          obtain ⟨p0, p1, p2, p3⟩ := hS.out.en.box pb (v0 := .int .i64 c) (v1 := .int .i64 h) (v2 := .int .i64 1000) (v3 := .slice (some ⟨gP, 0, none⟩) k cP) (by simp)
          go_wp2_with fail
          refine (ctile_v HPP.out hEd.out hCk.out (by have := HC.out; omega) (by have := HH.out; omega) (Int.sub_zero c) (Int.sub_zero h) EC1.out EN1.out EP.out hKl.out _ _ _ _ _ (HSL.out.1).isS (hS.out.en.isS gK cK (by simp))).mono ?_; rintro e w10 ⟨g1, d1, rfl, hP, hb⟩
          have hS1 := (hS.out.made hP hb).new (.int .i64 c) (.int .i64 h) (.int .i64 1000000) (.slice (some ⟨g1, 0, none⟩) k d1) 35
          obtain ⟨xb, exb⟩ : ∃ x, w10.heap.size = x := ⟨_, rfl⟩
          obtain ⟨w11, ew11⟩ : ∃ x, w10.alloc (.cells #[.int .i64 c, .int .i64 h, .int .i64 1000000, .slice (some ⟨g1, 0, none⟩) k d1] 35) = x := ⟨_, rfl⟩
          have hBn : Below w9.heap.size w9 w11 := by rw [← ew11]; exact balloc hb _
          rw [exb, ew11] at hS1
          replace hS := Lib.hid hS1
          replace HSL := Lib.hid (show PixAt B w11 gP cP P ∧ PixAt B w11 gQ cQ Q ∧ PixAt B w11 gR cR R from ⟨HSL.out.1.below hBn, HSL.out.2.1.below hBn, HSL.out.2.2.below hBn⟩)
          clear hP hb hS1 hBn p0 p1 p2 p3 e0 e1 r0 r1 r2 r3
          go_upto_region 18 with fail
          (try simp only [exb, ew11])
          clear exb ew11
          obtain ⟨e0, e1⟩ := hS.out.en.two eb (v0 := .int .i64 q) (v1 := .int .i64 0) (by simp)
          obtain ⟨r0, r1, r2, r3⟩ := hS.out.en.box rb (v0 := .int .i64 0) (v1 := .int .i64 0) (v2 := .int .i64 c) (v3 := .int .i64 h) (by simp)
          obtain ⟨p0, p1, p2, p3⟩ := hS.out.en.box qb (v0 := .int .i64 c) (v1 := .int .i64 h) (v2 := .int .i64 1000) (v3 := .slice (some ⟨gQ, 0, none⟩) k cQ) (by simp)
          go_wp2_with fail
          refine (ctile_v HPQ.out hEd.out hCk.out (by have := HC.out; omega) (by have := HH.out; omega) (Int.sub_zero c) (Int.sub_zero h) EC2.out EN2.out EQ.out hKl.out _ _ _ _ _ (HSL.out.2.1).isS (hS.out.en.isS gK cK (by simp))).mono ?_; rintro e w12 ⟨g2, d2, rfl, hP, hb⟩
          have hS1 := (hS.out.made hP hb).new (.int .i64 c) (.int .i64 h) (.int .i64 1000000) (.slice (some ⟨g2, 0, none⟩) k d2) 35
          obtain ⟨yb, eyb⟩ : ∃ x, w12.heap.size = x := ⟨_, rfl⟩
          obtain ⟨w13, ew13⟩ : ∃ x, w12.alloc (.cells #[.int .i64 c, .int .i64 h, .int .i64 1000000, .slice (some ⟨g2, 0, none⟩) k d2] 35) = x := ⟨_, rfl⟩
          have hBn : Below w11.heap.size w11 w13 := by rw [← ew13]; exact balloc hb _
          rw [eyb, ew13] at hS1
          replace hS := Lib.hid hS1
          replace HSL := Lib.hid (show PixAt B w13 gP cP P ∧ PixAt B w13 gQ cQ Q ∧ PixAt B w13 gR cR R from ⟨HSL.out.1.below hBn, HSL.out.2.1.below hBn, HSL.out.2.2.below hBn⟩)
          clear hP hb hS1 hBn p0 p1 p2 p3 e0 e1 r0 r1 r2 r3
          go_upto_region 19 with fail
          (try simp only [eyb, ew13])
          clear eyb ew13
          obtain ⟨e0, e1⟩ := hS.out.en.two eb (v0 := .int .i64 q) (v1 := .int .i64 0) (by simp)
          obtain ⟨r0, r1, r2, r3⟩ := hS.out.en.box rb (v0 := .int .i64 0) (v1 := .int .i64 0) (v2 := .int .i64 c) (v3 := .int .i64 h) (by simp)
          obtain ⟨p0, p1, p2, p3⟩ := hS.out.en.box sb (v0 := .int .i64 c) (v1 := .int .i64 h) (v2 := .int .i64 1000) (v3 := .slice (some ⟨gR, 0, none⟩) k cR) (by simp)
          go_wp2_with fail
          refine (ctile_v HPR.out hEd.out hCk.out (by have := HC.out; omega) (by have := HH.out; omega) (Int.sub_zero c) (Int.sub_zero h) EC3.out EN3.out ER.out hKl.out _ _ _ _ _ (HSL.out.2.2).isS (hS.out.en.isS gK cK (by simp))).mono ?_; rintro e w14 ⟨g3, d3, rfl, hP, hb⟩
          have hS1 := (hS.out.made hP hb).new (.int .i64 c) (.int .i64 h) (.int .i64 1000000) (.slice (some ⟨g3, 0, none⟩) k d3) 35
          obtain ⟨zb, ezb⟩ : ∃ x, w14.heap.size = x := ⟨_, rfl⟩
          obtain ⟨w15, ew15⟩ : ∃ x, w14.alloc (.cells #[.int .i64 c, .int .i64 h, .int .i64 1000000, .slice (some ⟨g3, 0, none⟩) k d3] 35) = x := ⟨_, rfl⟩
          have hBn : Below w13.heap.size w13 w15 := by rw [← ew15]; exact balloc hb _
          rw [ezb, ew15] at hS1
          replace hS := Lib.hid hS1
          replace HSL := Lib.hid (show PixAt B w15 gP cP P ∧ PixAt B w15 gQ cQ Q ∧ PixAt B w15 gR cR R from ⟨HSL.out.1.below hBn, HSL.out.2.1.below hBn, HSL.out.2.2.below hBn⟩)
          clear hP hb hS1 hBn p0 p1 p2 p3 e0 e1 r0 r1 r2 r3
          go_upto_region 20 with fail
          (try simp only [ezb, ew15])
          clear ezb ew15
          obtain ⟨e0, e1⟩ := hS.out.en.two eb (v0 := .int .i64 q) (v1 := .int .i64 0) (by simp)
          obtain ⟨r0, r1, r2, r3⟩ := hS.out.en.box rb (v0 := .int .i64 0) (v1 := .int .i64 0) (v2 := .int .i64 c) (v3 := .int .i64 h) (by simp)
          obtain ⟨p0, p1, p2, p3⟩ := hS.out.en.box pb (v0 := .int .i64 c) (v1 := .int .i64 h) (v2 := .int .i64 1000) (v3 := .slice (some ⟨gP, 0, none⟩) k cP) (by simp)
          have hrb : rb < w15.heap.size := hS.out.en.lt (.box rb (.int .i64 0) (.int .i64 0) (.int .i64 c) (.int .i64 h)) (by simp)
          go_wp2_with fail
          clear hrb
          have hlit : SliceIs (w15.alloc (.cells #[.int .i64 1] 3)) (some ⟨w15.heap.size, 0, none⟩) [1] := (RowIs.pix (base := 0) (row_new w15 [1]) (Nat.zero_le _) (by simp [maxLen])).isS
          refine (ctile_v HPP.out hEd.out hCk1.out (by have := HC.out; omega) (by have := HH.out; omega) (Int.sub_zero c) (Int.sub_zero h) EO.out EP.out EP.out rfl _ _ _ _ _ (is_below (HSL.out.1).isS (balloc (bref _) _)) hlit).mono ?_; rintro e w16 ⟨g4, d4, rfl, hP, hb⟩
          have hS1 := ((hS.out.call (balloc (bref _) (.cells #[.int .i64 1] 3))).made hP hb).new (.int .i64 c) (.int .i64 h) (.int .i64 1000) (.slice (some ⟨g4, 0, none⟩) k d4) 35
          obtain ⟨ob, eob⟩ : ∃ x, w16.heap.size = x := ⟨_, rfl⟩
          obtain ⟨w17, ew17⟩ : ∃ x, w16.alloc (.cells #[.int .i64 c, .int .i64 h, .int .i64 1000, .slice (some ⟨g4, 0, none⟩) k d4] 35) = x := ⟨_, rfl⟩
          have hBn : Below w15.heap.size w15 w17 := by rw [← ew17]; exact balloc (bthen (balloc (bref _) _) hb) _
          rw [eob, ew17] at hS1
          replace hS := Lib.hid hS1
          have HPX := Lib.hid (HSL.out.1.below hBn)
          clear hP hb hS1 hBn p0 p1 p2 p3 e0 e1 r0 r1 r2 r3 hlit HSL
          go_upto_region 21 with fail
          (try simp only [eob, ew17])
          clear eob ew17
          obtain ⟨x0, x1, x2, x3⟩ := hS.out.en.box xb (v0 := .int .i64 c) (v1 := .int .i64 h) (v2 := .int .i64 1000000) (v3 := .slice (some ⟨g1, 0, none⟩) k d1) (by simp)
          obtain ⟨y0, y1, y2, y3⟩ := hS.out.en.box yb (v0 := .int .i64 c) (v1 := .int .i64 h) (v2 := .int .i64 1000000) (v3 := .slice (some ⟨g2, 0, none⟩) k d2) (by simp)
          obtain ⟨z0, z1, z2, z3⟩ := hS.out.en.box zb (v0 := .int .i64 c) (v1 := .int .i64 h) (v2 := .int .i64 1000000) (v3 := .slice (some ⟨g3, 0, none⟩) k d3) (by simp)
          go_wp2_with fail
          clear x0 x1 x2 x3 y0 y1 y2 y3 z0 z1 z2 z3
          have hSP : Hid (St W p a0 cap xs [.box ob (.int .i64 c) (.int .i64 h) (.int .i64 1000) (.slice (some ⟨g4, 0, none⟩) k d4), .pix g4 d4 P, .box zb (.int .i64 c) (.int .i64 h) (.int .i64 1000000) (.slice (some ⟨g3, 0, none⟩) k d3), .pix g3 d3 C3, .box yb (.int .i64 c) (.int .i64 h) (.int .i64 1000000) (.slice (some ⟨g2, 0, none⟩) k d2), .pix g2 d2 C2, .box xb (.int .i64 c) (.int .i64 h) (.int .i64 1000000) (.slice (some ⟨g1, 0, none⟩) k d1), .pix g1 d1 C1, .box rb (.int .i64 0) (.int .i64 0) (.int .i64 c) (.int .i64 h), .two eb (.int .i64 q) (.int .i64 0), .box sb (.int .i64 c) (.int .i64 h) (.int .i64 1000) (.slice (some ⟨gR, 0, none⟩) k cR), .box qb (.int .i64 c) (.int .i64 h) (.int .i64 1000) (.slice (some ⟨gQ, 0, none⟩) k cQ), .box pb (.int .i64 c) (.int .i64 h) (.int .i64 1000) (.slice (some ⟨gP, 0, none⟩) k cP), .pix gK cK K] w17 ∧ PixAt B w17 gP cP P) := Lib.hid ⟨hS.out, HPX.out⟩
          clear hS HPX
          go_loopw [24] (fun i wr3 => ∃ j : Nat, j ≤ k ∧ i = .int .i64 j ∧ Hid (St W p a0 cap xs [.box ob (.int .i64 c) (.int .i64 h) (.int .i64 1000) (.slice (some ⟨g4, 0, none⟩) k d4), .pix g4 d4 P, .box zb (.int .i64 c) (.int .i64 h) (.int .i64 1000000) (.slice (some ⟨g3, 0, none⟩) k d3), .pix g3 d3 C3, .box yb (.int .i64 c) (.int .i64 h) (.int .i64 1000000) (.slice (some ⟨g2, 0, none⟩) k d2), .pix g2 d2 C2, .box xb (.int .i64 c) (.int .i64 h) (.int .i64 1000000) (.slice (some ⟨g1, 0, none⟩) k d1), .pix g1 d1 C1, .box rb (.int .i64 0) (.int .i64 0) (.int .i64 c) (.int .i64 h), .two eb (.int .i64 q) (.int .i64 0), .box sb (.int .i64 c) (.int .i64 h) (.int .i64 1000) (.slice (some ⟨gR, 0, none⟩) k cR), .box qb (.int .i64 c) (.int .i64 h) (.int .i64 1000) (.slice (some ⟨gQ, 0, none⟩) k cQ), .box pb (.int .i64 c) (.int .i64 h) (.int .i64 1000) (.slice (some ⟨gP, 0, none⟩) k cP), .pix gK cK K] wr3 ∧ PixAt B wr3 gP cP P)) (fun i _ => k - (intOf i).toNat)
          case atStart => exact ⟨0, by omega, rfl, hSP⟩
          case round =>
            clear hSP
            obtain ⟨j, hj, rfl, hS⟩ := hrel
            by_cases hlt : j < k
            · have hkI : (j : Int) < k := by omega
              have hlt' := Lib.hid hlt
              have q20 : wrap64 ((j : Int) + 1) = (j : Int) + 1 := wrap_in _ (by omega) (by have := hN.out; omega)
              obtain ⟨x0, x1, x2, x3⟩ := hS.out.1.en.box xb (v0 := .int .i64 c) (v1 := .int .i64 h) (v2 := .int .i64 1000000) (v3 := .slice (some ⟨g1, 0, none⟩) k d1) (by simp)
              obtain ⟨y0, y1, y2, y3⟩ := hS.out.1.en.box yb (v0 := .int .i64 c) (v1 := .int .i64 h) (v2 := .int .i64 1000000) (v3 := .slice (some ⟨g2, 0, none⟩) k d2) (by simp)
              obtain ⟨z0, z1, z2, z3⟩ := hS.out.1.en.box zb (v0 := .int .i64 c) (v1 := .int .i64 h) (v2 := .int .i64 1000000) (v3 := .slice (some ⟨g3, 0, none⟩) k d3) (by simp)
              have k1 := (hS.out.1.en.pix g1 d1 (L := C1) (by simp)).cell (k := j) (by rw [EN1.out]; exact hlt)
              have k2 := (hS.out.1.en.pix g2 d2 (L := C2) (by simp)).cell (k := j) (by rw [EN2.out]; exact hlt)
              have k3 := (hS.out.1.en.pix g3 d3 (L := C3) (by simp)).cell (k := j) (by rw [EN3.out]; exact hlt)
              have hA := HAD.out j hlt
              obtain ⟨v1, ev1⟩ : ∃ v, C1.getD j 0 = v := ⟨_, rfl⟩
              obtain ⟨v2, ev2⟩ : ∃ v, C2.getD j 0 = v := ⟨_, rfl⟩
              obtain ⟨v3, ev3⟩ : ∃ v, C3.getD j 0 = v := ⟨_, rfl⟩
              rw [ev1] at k1 hA
              rw [ev2] at k2 hA
              rw [ev3] at k3 hA
              have w12 : IntKind.i64.wrap (v1 + v2) = v3 := by rw [hA.1]; exact IntWalk.i64_in _ (by omega)
              have w12b : wrap64 (v1 + v2) = v3 := by rw [hA.1]; exact wrap_in _ (by omega) (by omega)
              have hvv : (v3 != v3) = false := by simp
              clear ev1 ev2 ev3 hA
              go_wp2_with fail
              go_quiet (fail)
              go_wp2_with fail
              go_roundw
              case rel => exact ⟨j + 1, hlt'.out, by (try rw [q20]); exact congrArg (Value.int .i64) (by omega), Lib.hid ⟨hS.out.1.call (bdrewN (bref _) _), hS.out.2.below (bdrewN (bref _) _)⟩⟩
              case measure => (try rw [q20]); exact down_by hlt'.out
            · obtain rfl : j = k := by omega
              have HS1 := Lib.hid hS.out.1
              obtain ⟨o0, o1, o2, o3⟩ := hS.out.1.en.box ob (v0 := .int .i64 c) (v1 := .int .i64 h) (v2 := .int .i64 1000) (v3 := .slice (some ⟨g4, 0, none⟩) j d4) (by simp)
              obtain ⟨p0, p1, p2, p3⟩ := hS.out.1.en.box pb (v0 := .int .i64 c) (v1 := .int .i64 h) (v2 := .int .i64 1000) (v3 := .slice (some ⟨gP, 0, none⟩) j cP) (by simp)
              go_wp2_with fail
              refine (requal_v EP.out (by have := hN.out; omega) _ _ _ _ _ (hS.out.1.en.pix g4 d4 (L := P) (by simp)).isS hS.out.2.isS).mono ?_; rintro e w20 ⟨rfl, hb⟩
              have hB := Lib.hid (bthen hS.out.1.below hb)
              clear hb p0 p1 p2 p3 o0 o1 o2 o3
              go_wp2_with fail
              refine (sane_is _).mono ?_; rintro e w21 ⟨rfl, hb⟩
              have hfin := Lib.hid (bthen hB.out hb)
              clear hb
              go_wp2_with fail
              go_returns
              exact ⟨rfl, hfin.out⟩
namespace convolveLinear
theorem own : ownKnob Try.prog.godebug = none := by kernel_rfl
theorem laid : laidOutB Try.prog = true := by kernel_rfl
theorem params_ok : ∀ t ∈ Try.f6.params.toList, Try.prog.readableRec t = true ∧ t < Try.prog.types.size := by
  rw [Try.params6]
  intro t ht
  simp at ht
  subst ht
  exact ⟨by kernel_rfl, of_decide_eq_true (by kernel_rfl)⟩
set_option maxRecDepth 100000 in
theorem lifted (os : Os) (started : os.Started) (H : Type) (enc : TypeId × Value → H) :
    ReturnsInHanded {} Try.checked os 6 .any (Rows.convolveLinearSpec.pre6 enc Try.prog Try.f6 Rows.convolveLinearRow.domain false) (Rows.convolveLinearSpec.post enc Try.prog Try.f6 false true false false) := by
  refine returnsInHanded_of_change (C := Try.checked) own started (by kernel_rfl) Try.func6
    (ChangeSpec.witness6 (enc := enc) (C := Try.checked) false ⟨#[], #[.slice none 0 0], []⟩ 8 (by kernel_rfl) (by kernel_rfl) (by kernel_rfl) (by kernel_rfl)) ?_
  intro W base args ds gs before hval0 hW hcnd _
  have hval : ∀ (j : Nat) t v, Try.f6.params[j]? = some t → args[j]? = some v → Value.okWide Try.prog W .any base t v := hval0
  have hW' := hW
  obtain ⟨p, q, hA0, hV, rfl, hfz, hnd⟩ := hW
  have hA : DataW.TrodAll enc Try.prog W 0 (fun _ => true) true Try.f6.params.toList args.toList ds p := hA0
  rw [Try.params6] at hA hval
  obtain ⟨v0, vs0, d0, ds0, p0, q0, hargs, rfl, rfl, h0, r0⟩ := trodAll_cons hA
  obtain ⟨rfl, rfl, rfl⟩ := trodAll_nil r0
  obtain rfl : args = #[v0] := by cases args; simp_all
  obtain ⟨rfl, rfl⟩ := trodVars_none hV
  obtain ⟨a0, len, cap, rfl⟩ := okWide_slice Try.underlying22 (hval 0 22 v0 rfl rfl)
  obtain ⟨xs, rfl, hs, hf, hl⟩ := open_list h0
  clear hA0 hval0
  have fin : Calls Try.prog 6 #[.slice a0 xs.length cap] W (TestPost true W) := linear_walk xs a0 cap W hs hf hl
  refine fin.mono fun e W' ⟨he, hb⟩ => ?_
  subst he
  exact ⟨_, rfl, law_post laid rfl Try.underlying4 params_ok rfl hW' rfl hb⟩

theorem over : Rows.convolveLinearRow.holds Try.pinned (OpenSpec.ofChange Rows.convolveLinearSpec) :=
  OpenClaim.holds_of_wide 6 Try.f6 rfl rfl rfl rfl rfl rfl rfl ⟨rfl, rfl, rfl, rfl, rfl⟩ rfl rfl rfl rfl rfl (by kernel_rfl) Try.func6 (by kernel_rfl)
    (of_decide_eq_true (by kernel_rfl)) (by unfold Func.isWrapper; first | (rw [if_pos (by decide +kernel)]; kernel_rfl) | (rw [if_neg (by decide +kernel)]; exact ⟨rfl, rfl⟩))
    (fun os started H enc _ => lifted os started H enc)

/-- the statement -/
theorem proved : Rows.ConvolveLinearSaid := over
#print axioms proved
end convolveLinear
end Go.Proofs.Ytibmoibhbgbfoaa
