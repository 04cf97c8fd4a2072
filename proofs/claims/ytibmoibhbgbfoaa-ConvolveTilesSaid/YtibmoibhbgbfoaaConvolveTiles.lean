/- For every list of numbers and every rectangle the statement ConvolveTiles returns true: the pixels of rectangles of convolutions, or the errors, are those of the reference. No condition. -/
import Derived.Test.YtibmoibhbgbfoaaCSane
import Derived.Test.YtibmoibhbgbfoaaTreeKit
import Derived.Test.YtibmoibhbgbfoaaCKit
import Derived.Test.YtibmoibhbgbfoaaPSized
namespace Go.Proofs.Ytibmoibhbgbfoaa
open Go.ChangeShapes Go.WideShapes Go.ChangeAt Go.RowKit
set_option linter.unusedVariables false
set_option linter.unusedSimpArgs false

set_option maxRecDepth 100000 in
set_option maxHeartbeats 8000000 in
theorem tiles_walk (xs : List Int) (a0 : Option Addr) (cap : Nat) (ra rb rc rd : Int) (w0 : World) (hs : SliceIs w0 a0 xs) (hf : Fits xs) (hl : xs.length ≤ 9223372036854775807) :
    Calls Try.prog 4 #[.slice a0 xs.length cap, .agg #[.int .i64 ra, .int .i64 rb, .int .i64 rc, .int .i64 rd]] w0 (TestPost true w0) := by
  have hq0 : B4 w0.heap.size (.int .i64 ra) (.int .i64 rb) (.int .i64 rc) (.int .i64 rd) (w0.alloc (.cells #[.int .i64 ra, .int .i64 rb, .int .i64 rc, .int .i64 rd] 33)) := ⟨by go_cell, by go_cell, by go_cell, by go_cell⟩
  obtain ⟨W, eW⟩ : ∃ W, w0.alloc (.cells #[.int .i64 ra, .int .i64 rb, .int .i64 rc, .int .i64 rd] 33) = W := ⟨_, rfl⟩
  obtain ⟨tb, etb⟩ : ∃ x, w0.heap.size = x := ⟨_, rfl⟩
  rw [eW, etb] at hq0
  have hq := Lib.hid hq0
  clear hq0
  have hBW : Hid (Below w0.heap.size w0 W) := Lib.hid (by rw [← eW]; exact balloc (bref w0) _)
  have hs' := Lib.hid (is_below hs hBW.out)
  have hf' := Lib.hid hf
  have hl' := Lib.hid hl
  clear hs hf hl
  go_enter Try.func4, Try.ntmps4
  go_wp2_with fail
  (try simp only [eW, etb])
  clear eW
  refine (new_any a0 cap xs _ hs'.out hf'.out hl'.out).mono ?_; rintro e w1 ⟨rfl, hT⟩
  have hS := Lib.hid (St.start hT)
  obtain ⟨p, ep⟩ : ∃ x, W.heap.size = x := ⟨_, rfl⟩
  rw [ep] at hS
  (try simp only [ep])
  clear hT
  go_wp2_with fail
  (try simp only [ep])
  clear ep
  go_loopw [6] (fun i wr => ∃ k : Nat, k ≤ 3 ∧ i = .int .i64 k ∧ Hid (St W p a0 cap xs [] wr)) (fun i _ => 3 - (intOf i).toNat)
  case atStart => exact ⟨0, by omega, rfl, hS⟩
  case round =>
    clear hS
    obtain ⟨k, hk, rfl, hS⟩ := hrel
    by_cases hlt : k < 3
    · have hkI : (k : Int) < 3 := by omega
      have hlt' := Lib.hid hlt
      go_wp2_with fail
      refine (plane_any W p a0 cap xs _ hS.out.tape).mono ?_; rintro e w2 ⟨c, h, hc, hh, m, g, L, rfl, hv, hm, hP, hT, hg⟩
      have hS1 := (hS.out.drawn hP hT hg).new (.int .i64 c) (.int .i64 h) (.int .i64 m) (.slice (some ⟨g, 0, none⟩) L.length L.length) 35
      obtain ⟨l, el⟩ : ∃ l, L.length = l := ⟨_, rfl⟩
      have EL := Lib.hid el
      obtain ⟨pb, epb⟩ : ∃ x, w2.heap.size = x := ⟨_, rfl⟩
      obtain ⟨w3, ew3⟩ : ∃ x, w2.alloc (.cells #[.int .i64 c, .int .i64 h, .int .i64 m, .slice (some ⟨g, 0, none⟩) l l] 35) = x := ⟨_, rfl⟩
      rw [el] at hS1 ⊢
      rw [epb, ew3] at hS1
      replace hS := Lib.hid hS1
      have hv' := Lib.hid hv
      have hm0 := (sizeB_t.1 (planeB_t.1 hv).1).2.2.2
      have HM := Lib.hid (show 1 ≤ m ∧ m ≤ 65535 by omega)
      have HC := Lib.hid hc
      have HH := Lib.hid hh
      clear hP hT hg hv hm hm0 hS1 el hc hh
      go_upto_region 6 with fail
      (try simp only [epb, ew3])
      clear epb ew3
      go_wp2_with fail
      refine (pick_litm (ys := [1, 3, 2, 5, 9]) W p a0 cap xs _ _ _ _ hS.out.tape (by simp) (by simp) (by intro j hj; simp at hj; rcases (show j = 0 ∨ j = 1 ∨ j = 2 ∨ j = 3 ∨ j = 4 by omega) with rfl | rfl | rfl | rfl | rfl <;> rfl)).mono ?_; rintro e w4 ⟨a, rfl, ha, hT, hg⟩
      replace hS := Lib.hid (hS.out.draw hT hg)
      have HA := Lib.hid (show 1 ≤ a ∧ a ≤ 9 by simp at ha; omega)
      clear hT hg ha
      go_wp2_with fail
      refine (pick_litm (ys := [1, 3, 2]) W p a0 cap xs _ _ _ _ hS.out.tape (by simp) (by simp) (by intro j hj; simp at hj; rcases (show j = 0 ∨ j = 1 ∨ j = 2 by omega) with rfl | rfl | rfl <;> rfl)).mono ?_; rintro e w5 ⟨b, rfl, hb, hT, hg⟩
      replace hS := Lib.hid (hS.out.draw hT hg)
      have HB := Lib.hid (show 1 ≤ b ∧ b ≤ 3 by simp at hb; omega)
      clear hT hg hb
      have hab : Hid (1 ≤ a * b ∧ a * b ≤ 27) := Lib.hid (by
        have j1 : a * b ≤ 9 * 3 := Int.mul_le_mul HA.out.2 HB.out.2 (by have := HB.out; omega) (by omega)
        have j2 : 1 * 1 ≤ a * b := Int.mul_le_mul HA.out.1 HB.out.1 (by omega) (by have := HA.out; omega)
        omega)
      obtain ⟨ab, eab⟩ : ∃ x, a * b = x := ⟨_, rfl⟩
      have EAB := Lib.hid eab
      rw [eab] at hab
      have wab : wrap64 (a * b) = ab := by rw [eab]; have := hab.out; unfold wrap64; omega
      clear eab
      go_upto_region 7 with fail
      go_cut [10, 11, 12, 13] (fun x y z u wx => ∃ (be bq gK cK : Nat) (K : List Int) (q f s x0 y0 x1 y1 : Int), x = .slice (some ⟨gK, 0, none⟩) K.length cK ∧ y = .pointer (some ⟨be, 0, none⟩) ∧ z = .int .i64 s ∧ u = .pointer (some ⟨bq, 0, none⟩) ∧ Hid ((K.length : Int) = ab ∧ Small K) ∧ Hid ((0 ≤ q ∧ q ≤ 3) ∧ (q = 3 ∨ f = 0) ∧ (f = 0 ∨ f = m ∨ f = m.tdiv 2)) ∧ Hid (0 ≤ s ∧ s < 6) ∧ Hid ((0 ≤ x0 ∧ x0 < x1 ∧ x1 ≤ c) ∧ (0 ≤ y0 ∧ y0 < y1 ∧ y1 ≤ h)) ∧ Hid (St W p a0 cap xs [.two be (.int .i64 q) (.int .i64 f), .box bq (.int .i64 x0) (.int .i64 y0) (.int .i64 x1) (.int .i64 y1), .pix gK cK K, .box pb (.int .i64 c) (.int .i64 h) (.int .i64 m) (.slice (some ⟨g, 0, none⟩) l l), .pix g l L] wx))
      case first =>
        haveI : Nonempty (In (B4 pb (.int .i64 c) (.int .i64 h) (.int .i64 m) (.slice (some ⟨g, 0, none⟩) l l))) := ⟨⟨_, hS.out.en.box pb (by simp)⟩⟩
        have c0 : ∀ s : In (B4 pb (.int .i64 c) (.int .i64 h) (.int .i64 m) (.slice (some ⟨g, 0, none⟩) l l)), s.w.cell? ⟨pb, 0, none⟩ = some (.int .i64 c) := fun s => s.h.1
        have c1 : ∀ s : In (B4 pb (.int .i64 c) (.int .i64 h) (.int .i64 m) (.slice (some ⟨g, 0, none⟩) l l)), s.w.cell? ⟨pb, 1, none⟩ = some (.int .i64 h) := fun s => s.h.2.1
        have c2 : ∀ s : In (B4 pb (.int .i64 c) (.int .i64 h) (.int .i64 m) (.slice (some ⟨g, 0, none⟩) l l)), s.w.cell? ⟨pb, 2, none⟩ = some (.int .i64 m) := fun s => s.h.2.2.1
        have c3 : ∀ s : In (B4 pb (.int .i64 c) (.int .i64 h) (.int .i64 m) (.slice (some ⟨g, 0, none⟩) l l)), s.w.cell? ⟨pb, 3, none⟩ = some (.slice (some ⟨g, 0, none⟩) l l) := fun s => s.h.2.2.2
        refine wp_region_noPanic ?_
        refine wp_region_held_drew (S := InW (B4 pb (.int .i64 c) (.int .i64 h) (.int .i64 m) (.slice (some ⟨g, 0, none⟩) l l))) (by kernel_rfl) ⟨⟨World.drew _, hS.out.drewn.en.box pb (by simp)⟩, rfl⟩ (fun hHeld => ?_)
        replace hS := Lib.hid hS.out.drewn
        obtain ⟨wd, ewd⟩ : ∃ wd, World.drew w5 = wd := ⟨_, rfl⟩
        rw [ewd] at hS hHeld
        simp only [ewd]
        clear ewd
        refine held_run 4 0 19 rfl (by decide) (by kernel_rfl) (by kernel_rfl) (by kernel_rfl) (fun _ _ _ _ _ h => h) hHeld ?_
        simp only [List.take_succ_cons, List.take_zero, List.drop_succ_cons, List.drop_zero]
        repeat (go_big_quiet_step (fail))
        refine wpQuiet_nil ?_
        (try simp only [Act.put, List.setIfInBounds_toArray, List.set_cons_zero, List.set_cons_succ])
        refine held_run 3 5 16 rfl (by decide) (by kernel_rfl) (by kernel_rfl) (by kernel_rfl) (fun _ _ _ _ _ h => h) hHeld ?_
        simp only [List.take_succ_cons, List.take_zero, List.drop_succ_cons, List.drop_zero]
        repeat (go_big_quiet_step (fail))
        refine wpQuiet_nil ?_
        (try simp only [Act.put, List.setIfInBounds_toArray, List.set_cons_zero, List.set_cons_succ])
        refine held_run 1 9 15 rfl (by decide) (by kernel_rfl) (by kernel_rfl) (by kernel_rfl) (fun _ _ _ _ _ h => h) hHeld ?_
        simp only [List.take_succ_cons, List.take_zero, List.drop_succ_cons, List.drop_zero]
        repeat (go_big_quiet_step (fail))
        refine wpQuiet_nil ?_
        (try simp only [Act.put, List.setIfInBounds_toArray, List.set_cons_zero, List.set_cons_succ])
        refine held_run 5 11 10 rfl (by decide) (by kernel_rfl) (by kernel_rfl) (by kernel_rfl) (fun _ _ _ _ _ h => h) hHeld ?_
        simp only [List.take_succ_cons, List.take_zero, List.drop_succ_cons, List.drop_zero]
        repeat (go_big_quiet_step (fail))
        refine wpQuiet_nil ?_
        (try simp only [Act.put, List.setIfInBounds_toArray, List.set_cons_zero, List.set_cons_succ])
        rw [wab]
        clear wab c0 c1 c2 c3 hkI hlt hk
        refine wp_dag (fun F hto hfr => ?_)
        have N4_8_10_16_17_18 : Hid (∀ (gK cK : Nat) (K : List Int) (q f : Int) (s : Int) (x0 y0 x1 y1 : Int) (be : Nat) (bq : Nat) (wx : World), Hid ((K.length : Int) = ab ∧ Small K) → Hid ((0 ≤ q ∧ q ≤ 3) ∧ (q = 3 ∨ f = 0) ∧ (f = 0 ∨ f = m ∨ f = m.tdiv 2)) → Hid (0 ≤ s ∧ s < 6) → Hid ((0 ≤ x0 ∧ x0 < x1 ∧ x1 ≤ c) ∧ (0 ≤ y0 ∧ y0 < y1 ∧ y1 ≤ h)) → Hid (St W p a0 cap xs [.pix gK cK K, .two be (.int .i64 0) (.int .i64 0), .box bq (.int .i64 0) (.int .i64 0) (.int .i64 0) (.int .i64 0), .box pb (.int .i64 c) (.int .i64 h) (.int .i64 m) (.slice (some ⟨g, 0, none⟩) l l), .pix g l L] wx) → F 4 #[true, true, true, true, true, true, true, true, true, true, true, true, true, true, true, true, true, true, true, false, false, false, false] { tmps := #[Value.slice a0 xs.length cap, Value.agg #[Value.int IntKind.i64 ra, Value.int IntKind.i64 rb, Value.int IntKind.i64 rc, Value.int IntKind.i64 rd], undef, Value.pointer (some { block := tb, off := 0 }), u4, Value.pointer (some { block := p, off := 0 }), Value.int IntKind.i64 ↑k, Value.pointer (some { block := pb, off := 0 }), Value.int IntKind.i64 a, Value.int IntKind.i64 b, u10, .pointer (some ⟨be, 0, none⟩), u12, .pointer (some ⟨bq, 0, none⟩), u14, u15, u16, u17, Value.slice a0 xs.length cap, Value.pointer (some { block := p, off := 0 }), Value.int IntKind.i64 ↑k, Value.bool true, u22, u23, Value.pointer (some { block := p, off := 0 }), Value.agg #[Value.int IntKind.i64 c, Value.int IntKind.i64 h, Value.int IntKind.i64 m, Value.slice (some { block := g, off := 0 }) l l], Value.pointer (some { block := p, off := 0 }), Value.slice (some { block := w3.heap.size, off := 0 }) 5 5, Value.int IntKind.i64 a, Value.pointer (some { block := p, off := 0 }), Value.slice (some { block := w4.heap.size, off := 0 }) 3 3, Value.int IntKind.i64 b, Value.pointer (some { block := p, off := 0 }), Value.int IntKind.i64 a, Value.int IntKind.i64 b, Value.int IntKind.i64 ab, .slice (some ⟨gK, 0, none⟩) K.length cK, Value.pointer (some { block := p, off := 0 }), Value.pointer (some { block := pb, off := 2 }), Value.int IntKind.i64 m, .agg #[.int .i64 q, .int .i64 f], Value.pointer (some { block := p, off := 0 }), .int .i64 s, Value.pointer (some { block := p, off := 0 }), Value.pointer (some { block := pb, off := 0 }), Value.int IntKind.i64 c, Value.pointer (some { block := pb, off := 1 }), Value.int IntKind.i64 h, .agg #[.int .i64 x0, .int .i64 y0, .int .i64 x1, .int .i64 y1], u49, u50, u51, u52, u53, u54, u55, u56, u57, u58, u59, u60, u61, u62, u63, u64, u65, u66, u67, u68, u69, u70, u71, u72, u73, u74, u75, u76, u77, u78, u79, u80, u81, u82, u83, u84, u85, u86, u87, u88, u89, u90, u91, u92, u93, u94, u95, undef], defers := [] } wx) := Lib.hid (by
          intro gK cK K q f s x0 y0 x1 y1 be bq wx HK HE HS4 HX hS
          refine hto.out _ _ _ _ ?_
          have hHeld : InW (B4 pb (.int .i64 c) (.int .i64 h) (.int .i64 m) (.slice (some ⟨g, 0, none⟩) l l)) wx := ⟨⟨_, hS.out.en.box pb (by simp)⟩, rfl⟩
          refine held_run 1 19 3 rfl (by decide) (by kernel_rfl) (by kernel_rfl) (by kernel_rfl) (fun _ _ _ _ _ h => h) hHeld ?_
          simp only [List.take_succ_cons, List.take_zero, List.drop_succ_cons, List.drop_zero]
          repeat (go_big_quiet_step (fail))
          refine wpQuiet_nil ?_
          (try simp only [Act.put, List.setIfInBounds_toArray, List.set_cons_zero, List.set_cons_succ])
          refine wpAnyH_ready (rs := [20]) (by kernel_rfl) (by simp) (AllReadyH.cons rfl (fun KQ hKQ => ?_) AllReadyH.nil)
          replace hS := Lib.hid (hS.out.pull 1 rfl rfl)
          obtain ⟨⟨zz0, zz1⟩, zf0, zf1⟩ := (show Box2 _ _ _ _ from hS.out.en.ok _ (List.mem_cons_self ..))
          have hSn := hS.out.set2 (.int .i64 q) (.int .i64 f)
          go_simp
          (try go_wp2_with fail)
          obtain ⟨wo20, ew⟩ : ∃ x, (wx.setCell ⟨be, 0, none⟩ (.int .i64 q)).setCell ⟨be, 1, none⟩ (.int .i64 f) = x := ⟨_, rfl⟩
          rw [ew] at hSn
          simp only [ew]
          replace hS := Lib.hid hSn
          clear hSn ew zz0 zz1 zf0 zf1
          refine hKQ.out _ _ ⟨⟨_, hS.out.en.box pb (by simp)⟩, rfl⟩ (fun hHeld2 => ?_)
          clear hKQ KQ hHeld
          have hHeld := hHeld2
          clear hHeld2
          (try simp only [Act.put, List.setIfInBounds_toArray, List.set_cons_zero, List.set_cons_succ])
          refine held_run 1 21 1 rfl (by decide) (by kernel_rfl) (by kernel_rfl) (by kernel_rfl) (fun _ _ _ _ _ h => h) hHeld ?_
          simp only [List.take_succ_cons, List.take_zero, List.drop_succ_cons, List.drop_zero]
          repeat (go_big_quiet_step (fail))
          refine wpQuiet_nil ?_
          (try simp only [Act.put, List.setIfInBounds_toArray, List.set_cons_zero, List.set_cons_succ])
          refine wpAnyH_ready (rs := [22]) (by kernel_rfl) (by simp) (AllReadyH.cons rfl (fun KQ hKQ => ?_) AllReadyH.nil)
          replace hS := Lib.hid (hS.out.pull 2 rfl rfl)
          obtain ⟨⟨zz0, zz1, zz2, zz3⟩, zf0, zf1, zf2, zf3⟩ := (show Box4 _ _ _ _ _ _ from hS.out.en.ok _ (List.mem_cons_self ..))
          have hSn := hS.out.setbox (.int .i64 x0) (.int .i64 y0) (.int .i64 x1) (.int .i64 y1)
          unfold put4 at hSn
          go_simp
          (try go_wp2_with fail)
          obtain ⟨wo22, ew⟩ : ∃ x, ((((wo20.setCell ⟨bq, 0, none⟩ (.int .i64 x0)).setCell ⟨bq, 1, none⟩ (.int .i64 y0)).setCell ⟨bq, 2, none⟩ (.int .i64 x1)).setCell ⟨bq, 3, none⟩ (.int .i64 y1)) = x := ⟨_, rfl⟩
          rw [ew] at hSn
          simp only [ew]
          replace hS := Lib.hid hSn
          clear hSn ew zz0 zz1 zz2 zz3 zf0 zf1 zf2 zf3
          refine hKQ.out _ _ ⟨⟨_, hS.out.en.box pb (by simp)⟩, rfl⟩ (fun hHeld2 => ?_)
          clear hKQ KQ hHeld
          have hHeld := hHeld2
          clear hHeld2
          (try simp only [Act.put, List.setIfInBounds_toArray, List.set_cons_zero, List.set_cons_succ])
          refine wpAnyH_done (by kernel_rfl) ?_ _
          refine NoPanic.normal ?_
          replace hS := Lib.hid (hS.out.pull 2 rfl rfl)
          replace hS := Lib.hid (hS.out.pull 1 rfl rfl)
          replace hS := Lib.hid (hS.out.pull 2 rfl rfl)
          go_wp2_with fail
          go_meet
          exact ⟨be, bq, gK, cK, K, q, f, s, x0, y0, x1, y1, rfl, rfl, rfl, rfl, HK, HE, HS4, HX, hS⟩)
        have N4_8_10_16_17 : Hid (∀ (gK cK : Nat) (K : List Int) (q f : Int) (s : Int) (x0 y0 x1 y1 : Int) (be : Nat) (wx : World), Hid ((K.length : Int) = ab ∧ Small K) → Hid ((0 ≤ q ∧ q ≤ 3) ∧ (q = 3 ∨ f = 0) ∧ (f = 0 ∨ f = m ∨ f = m.tdiv 2)) → Hid (0 ≤ s ∧ s < 6) → Hid ((0 ≤ x0 ∧ x0 < x1 ∧ x1 ≤ c) ∧ (0 ≤ y0 ∧ y0 < y1 ∧ y1 ≤ h)) → Hid (St W p a0 cap xs [.pix gK cK K, .two be (.int .i64 0) (.int .i64 0), .box pb (.int .i64 c) (.int .i64 h) (.int .i64 m) (.slice (some ⟨g, 0, none⟩) l l), .pix g l L] wx) → F 5 #[true, true, true, true, true, true, true, true, true, true, true, true, true, true, true, true, true, true, false, false, false, false, false] { tmps := #[Value.slice a0 xs.length cap, Value.agg #[Value.int IntKind.i64 ra, Value.int IntKind.i64 rb, Value.int IntKind.i64 rc, Value.int IntKind.i64 rd], undef, Value.pointer (some { block := tb, off := 0 }), u4, Value.pointer (some { block := p, off := 0 }), Value.int IntKind.i64 ↑k, Value.pointer (some { block := pb, off := 0 }), Value.int IntKind.i64 a, Value.int IntKind.i64 b, u10, .pointer (some ⟨be, 0, none⟩), u12, u13, u14, u15, u16, u17, Value.slice a0 xs.length cap, Value.pointer (some { block := p, off := 0 }), Value.int IntKind.i64 ↑k, Value.bool true, u22, u23, Value.pointer (some { block := p, off := 0 }), Value.agg #[Value.int IntKind.i64 c, Value.int IntKind.i64 h, Value.int IntKind.i64 m, Value.slice (some { block := g, off := 0 }) l l], Value.pointer (some { block := p, off := 0 }), Value.slice (some { block := w3.heap.size, off := 0 }) 5 5, Value.int IntKind.i64 a, Value.pointer (some { block := p, off := 0 }), Value.slice (some { block := w4.heap.size, off := 0 }) 3 3, Value.int IntKind.i64 b, Value.pointer (some { block := p, off := 0 }), Value.int IntKind.i64 a, Value.int IntKind.i64 b, Value.int IntKind.i64 ab, .slice (some ⟨gK, 0, none⟩) K.length cK, Value.pointer (some { block := p, off := 0 }), Value.pointer (some { block := pb, off := 2 }), Value.int IntKind.i64 m, .agg #[.int .i64 q, .int .i64 f], Value.pointer (some { block := p, off := 0 }), .int .i64 s, Value.pointer (some { block := p, off := 0 }), Value.pointer (some { block := pb, off := 0 }), Value.int IntKind.i64 c, Value.pointer (some { block := pb, off := 1 }), Value.int IntKind.i64 h, .agg #[.int .i64 x0, .int .i64 y0, .int .i64 x1, .int .i64 y1], u49, u50, u51, u52, u53, u54, u55, u56, u57, u58, u59, u60, u61, u62, u63, u64, u65, u66, u67, u68, u69, u70, u71, u72, u73, u74, u75, u76, u77, u78, u79, u80, u81, u82, u83, u84, u85, u86, u87, u88, u89, u90, u91, u92, u93, u94, u95, undef], defers := [] } wx) := Lib.hid (by
          intro gK cK K q f s x0 y0 x1 y1 be wx HK HE HS4 HX hS
          refine hto.out _ _ _ _ ?_
          have hHeld : InW (B4 pb (.int .i64 c) (.int .i64 h) (.int .i64 m) (.slice (some ⟨g, 0, none⟩) l l)) wx := ⟨⟨_, hS.out.en.box pb (by simp)⟩, rfl⟩
          refine wpAnyH_ready (rs := [18]) (by kernel_rfl) (by simp) (AllReadyH.cons rfl (fun KQ hKQ => ?_) AllReadyH.nil)
          go_simp
          go_wp2_with fail
          have hSn := hS.out.new (.int .i64 0) (.int .i64 0) (.int .i64 0) (.int .i64 0) 33
          obtain ⟨bq, eb⟩ : ∃ x, wx.heap.size = x := ⟨_, rfl⟩
          obtain ⟨wn, ew⟩ : ∃ x, wx.alloc (.cells #[.int .i64 0, .int .i64 0, .int .i64 0, .int .i64 0] 33) = x := ⟨_, rfl⟩
          rw [ew, eb] at hSn
          simp only [ew, eb]
          replace hS := Lib.hid hSn
          clear hSn ew eb
          replace hS := Lib.hid (hS.out.pull 2 rfl rfl)
          replace hS := Lib.hid (hS.out.pull 2 rfl rfl)
          refine hKQ.out _ _ ⟨⟨_, hS.out.en.box pb (by simp)⟩, rfl⟩ (fun hHeld2 => ?_)
          (try simp only [Act.put, List.setIfInBounds_toArray, List.set_cons_zero, List.set_cons_succ])
          exact hfr.out _ _ _ _ (N4_8_10_16_17_18.out gK cK K q f s x0 y0 x1 y1 be bq wn HK HE HS4 HX hS))
        have N4_8_10_16_18 : Hid (∀ (gK cK : Nat) (K : List Int) (q f : Int) (s : Int) (x0 y0 x1 y1 : Int) (bq : Nat) (wx : World), Hid ((K.length : Int) = ab ∧ Small K) → Hid ((0 ≤ q ∧ q ≤ 3) ∧ (q = 3 ∨ f = 0) ∧ (f = 0 ∨ f = m ∨ f = m.tdiv 2)) → Hid (0 ≤ s ∧ s < 6) → Hid ((0 ≤ x0 ∧ x0 < x1 ∧ x1 ≤ c) ∧ (0 ≤ y0 ∧ y0 < y1 ∧ y1 ≤ h)) → Hid (St W p a0 cap xs [.pix gK cK K, .box bq (.int .i64 0) (.int .i64 0) (.int .i64 0) (.int .i64 0), .box pb (.int .i64 c) (.int .i64 h) (.int .i64 m) (.slice (some ⟨g, 0, none⟩) l l), .pix g l L] wx) → F 5 #[true, true, true, true, true, true, true, true, true, true, true, true, true, true, true, true, true, false, true, false, false, false, false] { tmps := #[Value.slice a0 xs.length cap, Value.agg #[Value.int IntKind.i64 ra, Value.int IntKind.i64 rb, Value.int IntKind.i64 rc, Value.int IntKind.i64 rd], undef, Value.pointer (some { block := tb, off := 0 }), u4, Value.pointer (some { block := p, off := 0 }), Value.int IntKind.i64 ↑k, Value.pointer (some { block := pb, off := 0 }), Value.int IntKind.i64 a, Value.int IntKind.i64 b, u10, u11, u12, .pointer (some ⟨bq, 0, none⟩), u14, u15, u16, u17, Value.slice a0 xs.length cap, Value.pointer (some { block := p, off := 0 }), Value.int IntKind.i64 ↑k, Value.bool true, u22, u23, Value.pointer (some { block := p, off := 0 }), Value.agg #[Value.int IntKind.i64 c, Value.int IntKind.i64 h, Value.int IntKind.i64 m, Value.slice (some { block := g, off := 0 }) l l], Value.pointer (some { block := p, off := 0 }), Value.slice (some { block := w3.heap.size, off := 0 }) 5 5, Value.int IntKind.i64 a, Value.pointer (some { block := p, off := 0 }), Value.slice (some { block := w4.heap.size, off := 0 }) 3 3, Value.int IntKind.i64 b, Value.pointer (some { block := p, off := 0 }), Value.int IntKind.i64 a, Value.int IntKind.i64 b, Value.int IntKind.i64 ab, .slice (some ⟨gK, 0, none⟩) K.length cK, Value.pointer (some { block := p, off := 0 }), Value.pointer (some { block := pb, off := 2 }), Value.int IntKind.i64 m, .agg #[.int .i64 q, .int .i64 f], Value.pointer (some { block := p, off := 0 }), .int .i64 s, Value.pointer (some { block := p, off := 0 }), Value.pointer (some { block := pb, off := 0 }), Value.int IntKind.i64 c, Value.pointer (some { block := pb, off := 1 }), Value.int IntKind.i64 h, .agg #[.int .i64 x0, .int .i64 y0, .int .i64 x1, .int .i64 y1], u49, u50, u51, u52, u53, u54, u55, u56, u57, u58, u59, u60, u61, u62, u63, u64, u65, u66, u67, u68, u69, u70, u71, u72, u73, u74, u75, u76, u77, u78, u79, u80, u81, u82, u83, u84, u85, u86, u87, u88, u89, u90, u91, u92, u93, u94, u95, undef], defers := [] } wx) := Lib.hid (by
          intro gK cK K q f s x0 y0 x1 y1 bq wx HK HE HS4 HX hS
          refine hto.out _ _ _ _ ?_
          have hHeld : InW (B4 pb (.int .i64 c) (.int .i64 h) (.int .i64 m) (.slice (some ⟨g, 0, none⟩) l l)) wx := ⟨⟨_, hS.out.en.box pb (by simp)⟩, rfl⟩
          refine wpAnyH_ready (rs := [17]) (by kernel_rfl) (by simp) (AllReadyH.cons rfl (fun KQ hKQ => ?_) AllReadyH.nil)
          go_simp
          go_wp2_with fail
          have hSn := hS.out.new2 (.int .i64 0) (.int .i64 0) 38
          obtain ⟨be, eb⟩ : ∃ x, wx.heap.size = x := ⟨_, rfl⟩
          obtain ⟨wn, ew⟩ : ∃ x, wx.alloc (.cells #[.int .i64 0, .int .i64 0] 38) = x := ⟨_, rfl⟩
          rw [ew, eb] at hSn
          simp only [ew, eb]
          replace hS := Lib.hid hSn
          clear hSn ew eb
          replace hS := Lib.hid (hS.out.pull 1 rfl rfl)
          refine hKQ.out _ _ ⟨⟨_, hS.out.en.box pb (by simp)⟩, rfl⟩ (fun hHeld2 => ?_)
          (try simp only [Act.put, List.setIfInBounds_toArray, List.set_cons_zero, List.set_cons_succ])
          exact hfr.out _ _ _ _ (N4_8_10_16_17_18.out gK cK K q f s x0 y0 x1 y1 be bq wn HK HE HS4 HX hS))
        have N4_8_10_17_18 : Hid (∀ (gK cK : Nat) (K : List Int) (q f : Int) (s : Int) (be : Nat) (bq : Nat) (wx : World), Hid ((K.length : Int) = ab ∧ Small K) → Hid ((0 ≤ q ∧ q ≤ 3) ∧ (q = 3 ∨ f = 0) ∧ (f = 0 ∨ f = m ∨ f = m.tdiv 2)) → Hid (0 ≤ s ∧ s < 6) → Hid (St W p a0 cap xs [.pix gK cK K, .two be (.int .i64 0) (.int .i64 0), .box bq (.int .i64 0) (.int .i64 0) (.int .i64 0) (.int .i64 0), .box pb (.int .i64 c) (.int .i64 h) (.int .i64 m) (.slice (some ⟨g, 0, none⟩) l l), .pix g l L] wx) → F 5 #[true, true, true, true, true, true, true, true, true, true, true, true, true, true, true, true, false, true, true, false, false, false, false] { tmps := #[Value.slice a0 xs.length cap, Value.agg #[Value.int IntKind.i64 ra, Value.int IntKind.i64 rb, Value.int IntKind.i64 rc, Value.int IntKind.i64 rd], undef, Value.pointer (some { block := tb, off := 0 }), u4, Value.pointer (some { block := p, off := 0 }), Value.int IntKind.i64 ↑k, Value.pointer (some { block := pb, off := 0 }), Value.int IntKind.i64 a, Value.int IntKind.i64 b, u10, .pointer (some ⟨be, 0, none⟩), u12, .pointer (some ⟨bq, 0, none⟩), u14, u15, u16, u17, Value.slice a0 xs.length cap, Value.pointer (some { block := p, off := 0 }), Value.int IntKind.i64 ↑k, Value.bool true, u22, u23, Value.pointer (some { block := p, off := 0 }), Value.agg #[Value.int IntKind.i64 c, Value.int IntKind.i64 h, Value.int IntKind.i64 m, Value.slice (some { block := g, off := 0 }) l l], Value.pointer (some { block := p, off := 0 }), Value.slice (some { block := w3.heap.size, off := 0 }) 5 5, Value.int IntKind.i64 a, Value.pointer (some { block := p, off := 0 }), Value.slice (some { block := w4.heap.size, off := 0 }) 3 3, Value.int IntKind.i64 b, Value.pointer (some { block := p, off := 0 }), Value.int IntKind.i64 a, Value.int IntKind.i64 b, Value.int IntKind.i64 ab, .slice (some ⟨gK, 0, none⟩) K.length cK, Value.pointer (some { block := p, off := 0 }), Value.pointer (some { block := pb, off := 2 }), Value.int IntKind.i64 m, .agg #[.int .i64 q, .int .i64 f], Value.pointer (some { block := p, off := 0 }), .int .i64 s, Value.pointer (some { block := p, off := 0 }), Value.pointer (some { block := pb, off := 0 }), Value.int IntKind.i64 c, Value.pointer (some { block := pb, off := 1 }), Value.int IntKind.i64 h, u48, u49, u50, u51, u52, u53, u54, u55, u56, u57, u58, u59, u60, u61, u62, u63, u64, u65, u66, u67, u68, u69, u70, u71, u72, u73, u74, u75, u76, u77, u78, u79, u80, u81, u82, u83, u84, u85, u86, u87, u88, u89, u90, u91, u92, u93, u94, u95, undef], defers := [] } wx) := Lib.hid (by
          intro gK cK K q f s be bq wx HK HE HS4 hS
          refine hto.out _ _ _ _ ?_
          have hHeld : InW (B4 pb (.int .i64 c) (.int .i64 h) (.int .i64 m) (.slice (some ⟨g, 0, none⟩) l l)) wx := ⟨⟨_, hS.out.en.box pb (by simp)⟩, rfl⟩
          refine wpAnyH_ready (rs := [16]) (by kernel_rfl) (by simp) (AllReadyH.cons rfl (fun KQ hKQ => ?_) AllReadyH.nil)
          go_simp
          go_at_call 17
          refine (within_some W p a0 cap xs c h _ hS.out.tape (by have := HC.out; omega) (by have := HC.out; omega) (by have := HH.out; omega) (by have := HH.out; omega)).mono ?_; rintro e wn ⟨x0, y0, x1, y1, rfl, hx, hy, hT, hg⟩
          replace hS := Lib.hid (hS.out.draw hT hg)
          have HX := Lib.hid (And.intro hx hy)
          clear hT hg hx hy
          go_wp2_with fail
          refine hKQ.out _ _ ⟨⟨_, hS.out.en.box pb (by simp)⟩, rfl⟩ (fun hHeld2 => ?_)
          (try simp only [Act.put, List.setIfInBounds_toArray, List.set_cons_zero, List.set_cons_succ])
          exact hfr.out _ _ _ _ (N4_8_10_16_17_18.out gK cK K q f s x0 y0 x1 y1 be bq wn HK HE HS4 HX hS))
        have N4_8_10_16 : Hid (∀ (gK cK : Nat) (K : List Int) (q f : Int) (s : Int) (x0 y0 x1 y1 : Int) (wx : World), Hid ((K.length : Int) = ab ∧ Small K) → Hid ((0 ≤ q ∧ q ≤ 3) ∧ (q = 3 ∨ f = 0) ∧ (f = 0 ∨ f = m ∨ f = m.tdiv 2)) → Hid (0 ≤ s ∧ s < 6) → Hid ((0 ≤ x0 ∧ x0 < x1 ∧ x1 ≤ c) ∧ (0 ≤ y0 ∧ y0 < y1 ∧ y1 ≤ h)) → Hid (St W p a0 cap xs [.pix gK cK K, .box pb (.int .i64 c) (.int .i64 h) (.int .i64 m) (.slice (some ⟨g, 0, none⟩) l l), .pix g l L] wx) → F 6 #[true, true, true, true, true, true, true, true, true, true, true, true, true, true, true, true, true, false, false, false, false, false, false] { tmps := #[Value.slice a0 xs.length cap, Value.agg #[Value.int IntKind.i64 ra, Value.int IntKind.i64 rb, Value.int IntKind.i64 rc, Value.int IntKind.i64 rd], undef, Value.pointer (some { block := tb, off := 0 }), u4, Value.pointer (some { block := p, off := 0 }), Value.int IntKind.i64 ↑k, Value.pointer (some { block := pb, off := 0 }), Value.int IntKind.i64 a, Value.int IntKind.i64 b, u10, u11, u12, u13, u14, u15, u16, u17, Value.slice a0 xs.length cap, Value.pointer (some { block := p, off := 0 }), Value.int IntKind.i64 ↑k, Value.bool true, u22, u23, Value.pointer (some { block := p, off := 0 }), Value.agg #[Value.int IntKind.i64 c, Value.int IntKind.i64 h, Value.int IntKind.i64 m, Value.slice (some { block := g, off := 0 }) l l], Value.pointer (some { block := p, off := 0 }), Value.slice (some { block := w3.heap.size, off := 0 }) 5 5, Value.int IntKind.i64 a, Value.pointer (some { block := p, off := 0 }), Value.slice (some { block := w4.heap.size, off := 0 }) 3 3, Value.int IntKind.i64 b, Value.pointer (some { block := p, off := 0 }), Value.int IntKind.i64 a, Value.int IntKind.i64 b, Value.int IntKind.i64 ab, .slice (some ⟨gK, 0, none⟩) K.length cK, Value.pointer (some { block := p, off := 0 }), Value.pointer (some { block := pb, off := 2 }), Value.int IntKind.i64 m, .agg #[.int .i64 q, .int .i64 f], Value.pointer (some { block := p, off := 0 }), .int .i64 s, Value.pointer (some { block := p, off := 0 }), Value.pointer (some { block := pb, off := 0 }), Value.int IntKind.i64 c, Value.pointer (some { block := pb, off := 1 }), Value.int IntKind.i64 h, .agg #[.int .i64 x0, .int .i64 y0, .int .i64 x1, .int .i64 y1], u49, u50, u51, u52, u53, u54, u55, u56, u57, u58, u59, u60, u61, u62, u63, u64, u65, u66, u67, u68, u69, u70, u71, u72, u73, u74, u75, u76, u77, u78, u79, u80, u81, u82, u83, u84, u85, u86, u87, u88, u89, u90, u91, u92, u93, u94, u95, undef], defers := [] } wx) := Lib.hid (by
          intro gK cK K q f s x0 y0 x1 y1 wx HK HE HS4 HX hS
          refine hto.out _ _ _ _ ?_
          have hHeld : InW (B4 pb (.int .i64 c) (.int .i64 h) (.int .i64 m) (.slice (some ⟨g, 0, none⟩) l l)) wx := ⟨⟨_, hS.out.en.box pb (by simp)⟩, rfl⟩
          refine wpAnyH_ready (rs := [17, 18]) (by kernel_rfl) (by simp) (AllReadyH.cons rfl (fun KQ hKQ => ?_) (AllReadyH.cons rfl (fun KQ hKQ => ?_) AllReadyH.nil))
          · go_simp
            go_wp2_with fail
            have hSn := hS.out.new2 (.int .i64 0) (.int .i64 0) 38
            obtain ⟨be, eb⟩ : ∃ x, wx.heap.size = x := ⟨_, rfl⟩
            obtain ⟨wn, ew⟩ : ∃ x, wx.alloc (.cells #[.int .i64 0, .int .i64 0] 38) = x := ⟨_, rfl⟩
            rw [ew, eb] at hSn
            simp only [ew, eb]
            replace hS := Lib.hid hSn
            clear hSn ew eb
            replace hS := Lib.hid (hS.out.pull 1 rfl rfl)
            refine hKQ.out _ _ ⟨⟨_, hS.out.en.box pb (by simp)⟩, rfl⟩ (fun hHeld2 => ?_)
            (try simp only [Act.put, List.setIfInBounds_toArray, List.set_cons_zero, List.set_cons_succ])
            exact hfr.out _ _ _ _ (N4_8_10_16_17.out gK cK K q f s x0 y0 x1 y1 be wn HK HE HS4 HX hS)
          · go_simp
            go_wp2_with fail
            have hSn := hS.out.new (.int .i64 0) (.int .i64 0) (.int .i64 0) (.int .i64 0) 33
            obtain ⟨bq, eb⟩ : ∃ x, wx.heap.size = x := ⟨_, rfl⟩
            obtain ⟨wn, ew⟩ : ∃ x, wx.alloc (.cells #[.int .i64 0, .int .i64 0, .int .i64 0, .int .i64 0] 33) = x := ⟨_, rfl⟩
            rw [ew, eb] at hSn
            simp only [ew, eb]
            replace hS := Lib.hid hSn
            clear hSn ew eb
            replace hS := Lib.hid (hS.out.pull 1 rfl rfl)
            refine hKQ.out _ _ ⟨⟨_, hS.out.en.box pb (by simp)⟩, rfl⟩ (fun hHeld2 => ?_)
            (try simp only [Act.put, List.setIfInBounds_toArray, List.set_cons_zero, List.set_cons_succ])
            exact hfr.out _ _ _ _ (N4_8_10_16_18.out gK cK K q f s x0 y0 x1 y1 bq wn HK HE HS4 HX hS))
        have N4_8_10_17 : Hid (∀ (gK cK : Nat) (K : List Int) (q f : Int) (s : Int) (be : Nat) (wx : World), Hid ((K.length : Int) = ab ∧ Small K) → Hid ((0 ≤ q ∧ q ≤ 3) ∧ (q = 3 ∨ f = 0) ∧ (f = 0 ∨ f = m ∨ f = m.tdiv 2)) → Hid (0 ≤ s ∧ s < 6) → Hid (St W p a0 cap xs [.pix gK cK K, .two be (.int .i64 0) (.int .i64 0), .box pb (.int .i64 c) (.int .i64 h) (.int .i64 m) (.slice (some ⟨g, 0, none⟩) l l), .pix g l L] wx) → F 6 #[true, true, true, true, true, true, true, true, true, true, true, true, true, true, true, true, false, true, false, false, false, false, false] { tmps := #[Value.slice a0 xs.length cap, Value.agg #[Value.int IntKind.i64 ra, Value.int IntKind.i64 rb, Value.int IntKind.i64 rc, Value.int IntKind.i64 rd], undef, Value.pointer (some { block := tb, off := 0 }), u4, Value.pointer (some { block := p, off := 0 }), Value.int IntKind.i64 ↑k, Value.pointer (some { block := pb, off := 0 }), Value.int IntKind.i64 a, Value.int IntKind.i64 b, u10, .pointer (some ⟨be, 0, none⟩), u12, u13, u14, u15, u16, u17, Value.slice a0 xs.length cap, Value.pointer (some { block := p, off := 0 }), Value.int IntKind.i64 ↑k, Value.bool true, u22, u23, Value.pointer (some { block := p, off := 0 }), Value.agg #[Value.int IntKind.i64 c, Value.int IntKind.i64 h, Value.int IntKind.i64 m, Value.slice (some { block := g, off := 0 }) l l], Value.pointer (some { block := p, off := 0 }), Value.slice (some { block := w3.heap.size, off := 0 }) 5 5, Value.int IntKind.i64 a, Value.pointer (some { block := p, off := 0 }), Value.slice (some { block := w4.heap.size, off := 0 }) 3 3, Value.int IntKind.i64 b, Value.pointer (some { block := p, off := 0 }), Value.int IntKind.i64 a, Value.int IntKind.i64 b, Value.int IntKind.i64 ab, .slice (some ⟨gK, 0, none⟩) K.length cK, Value.pointer (some { block := p, off := 0 }), Value.pointer (some { block := pb, off := 2 }), Value.int IntKind.i64 m, .agg #[.int .i64 q, .int .i64 f], Value.pointer (some { block := p, off := 0 }), .int .i64 s, Value.pointer (some { block := p, off := 0 }), Value.pointer (some { block := pb, off := 0 }), Value.int IntKind.i64 c, Value.pointer (some { block := pb, off := 1 }), Value.int IntKind.i64 h, u48, u49, u50, u51, u52, u53, u54, u55, u56, u57, u58, u59, u60, u61, u62, u63, u64, u65, u66, u67, u68, u69, u70, u71, u72, u73, u74, u75, u76, u77, u78, u79, u80, u81, u82, u83, u84, u85, u86, u87, u88, u89, u90, u91, u92, u93, u94, u95, undef], defers := [] } wx) := Lib.hid (by
          intro gK cK K q f s be wx HK HE HS4 hS
          refine hto.out _ _ _ _ ?_
          have hHeld : InW (B4 pb (.int .i64 c) (.int .i64 h) (.int .i64 m) (.slice (some ⟨g, 0, none⟩) l l)) wx := ⟨⟨_, hS.out.en.box pb (by simp)⟩, rfl⟩
          refine wpAnyH_ready (rs := [16, 18]) (by kernel_rfl) (by simp) (AllReadyH.cons rfl (fun KQ hKQ => ?_) (AllReadyH.cons rfl (fun KQ hKQ => ?_) AllReadyH.nil))
          · go_simp
            go_at_call 17
            refine (within_some W p a0 cap xs c h _ hS.out.tape (by have := HC.out; omega) (by have := HC.out; omega) (by have := HH.out; omega) (by have := HH.out; omega)).mono ?_; rintro e wn ⟨x0, y0, x1, y1, rfl, hx, hy, hT, hg⟩
            replace hS := Lib.hid (hS.out.draw hT hg)
            have HX := Lib.hid (And.intro hx hy)
            clear hT hg hx hy
            go_wp2_with fail
            refine hKQ.out _ _ ⟨⟨_, hS.out.en.box pb (by simp)⟩, rfl⟩ (fun hHeld2 => ?_)
            (try simp only [Act.put, List.setIfInBounds_toArray, List.set_cons_zero, List.set_cons_succ])
            exact hfr.out _ _ _ _ (N4_8_10_16_17.out gK cK K q f s x0 y0 x1 y1 be wn HK HE HS4 HX hS)
          · go_simp
            go_wp2_with fail
            have hSn := hS.out.new (.int .i64 0) (.int .i64 0) (.int .i64 0) (.int .i64 0) 33
            obtain ⟨bq, eb⟩ : ∃ x, wx.heap.size = x := ⟨_, rfl⟩
            obtain ⟨wn, ew⟩ : ∃ x, wx.alloc (.cells #[.int .i64 0, .int .i64 0, .int .i64 0, .int .i64 0] 33) = x := ⟨_, rfl⟩
            rw [ew, eb] at hSn
            simp only [ew, eb]
            replace hS := Lib.hid hSn
            clear hSn ew eb
            replace hS := Lib.hid (hS.out.pull 2 rfl rfl)
            replace hS := Lib.hid (hS.out.pull 2 rfl rfl)
            refine hKQ.out _ _ ⟨⟨_, hS.out.en.box pb (by simp)⟩, rfl⟩ (fun hHeld2 => ?_)
            (try simp only [Act.put, List.setIfInBounds_toArray, List.set_cons_zero, List.set_cons_succ])
            exact hfr.out _ _ _ _ (N4_8_10_17_18.out gK cK K q f s be bq wn HK HE HS4 hS))
        have N4_8_10_18 : Hid (∀ (gK cK : Nat) (K : List Int) (q f : Int) (s : Int) (bq : Nat) (wx : World), Hid ((K.length : Int) = ab ∧ Small K) → Hid ((0 ≤ q ∧ q ≤ 3) ∧ (q = 3 ∨ f = 0) ∧ (f = 0 ∨ f = m ∨ f = m.tdiv 2)) → Hid (0 ≤ s ∧ s < 6) → Hid (St W p a0 cap xs [.pix gK cK K, .box bq (.int .i64 0) (.int .i64 0) (.int .i64 0) (.int .i64 0), .box pb (.int .i64 c) (.int .i64 h) (.int .i64 m) (.slice (some ⟨g, 0, none⟩) l l), .pix g l L] wx) → F 6 #[true, true, true, true, true, true, true, true, true, true, true, true, true, true, true, true, false, false, true, false, false, false, false] { tmps := #[Value.slice a0 xs.length cap, Value.agg #[Value.int IntKind.i64 ra, Value.int IntKind.i64 rb, Value.int IntKind.i64 rc, Value.int IntKind.i64 rd], undef, Value.pointer (some { block := tb, off := 0 }), u4, Value.pointer (some { block := p, off := 0 }), Value.int IntKind.i64 ↑k, Value.pointer (some { block := pb, off := 0 }), Value.int IntKind.i64 a, Value.int IntKind.i64 b, u10, u11, u12, .pointer (some ⟨bq, 0, none⟩), u14, u15, u16, u17, Value.slice a0 xs.length cap, Value.pointer (some { block := p, off := 0 }), Value.int IntKind.i64 ↑k, Value.bool true, u22, u23, Value.pointer (some { block := p, off := 0 }), Value.agg #[Value.int IntKind.i64 c, Value.int IntKind.i64 h, Value.int IntKind.i64 m, Value.slice (some { block := g, off := 0 }) l l], Value.pointer (some { block := p, off := 0 }), Value.slice (some { block := w3.heap.size, off := 0 }) 5 5, Value.int IntKind.i64 a, Value.pointer (some { block := p, off := 0 }), Value.slice (some { block := w4.heap.size, off := 0 }) 3 3, Value.int IntKind.i64 b, Value.pointer (some { block := p, off := 0 }), Value.int IntKind.i64 a, Value.int IntKind.i64 b, Value.int IntKind.i64 ab, .slice (some ⟨gK, 0, none⟩) K.length cK, Value.pointer (some { block := p, off := 0 }), Value.pointer (some { block := pb, off := 2 }), Value.int IntKind.i64 m, .agg #[.int .i64 q, .int .i64 f], Value.pointer (some { block := p, off := 0 }), .int .i64 s, Value.pointer (some { block := p, off := 0 }), Value.pointer (some { block := pb, off := 0 }), Value.int IntKind.i64 c, Value.pointer (some { block := pb, off := 1 }), Value.int IntKind.i64 h, u48, u49, u50, u51, u52, u53, u54, u55, u56, u57, u58, u59, u60, u61, u62, u63, u64, u65, u66, u67, u68, u69, u70, u71, u72, u73, u74, u75, u76, u77, u78, u79, u80, u81, u82, u83, u84, u85, u86, u87, u88, u89, u90, u91, u92, u93, u94, u95, undef], defers := [] } wx) := Lib.hid (by
          intro gK cK K q f s bq wx HK HE HS4 hS
          refine hto.out _ _ _ _ ?_
          have hHeld : InW (B4 pb (.int .i64 c) (.int .i64 h) (.int .i64 m) (.slice (some ⟨g, 0, none⟩) l l)) wx := ⟨⟨_, hS.out.en.box pb (by simp)⟩, rfl⟩
          refine wpAnyH_ready (rs := [16, 17]) (by kernel_rfl) (by simp) (AllReadyH.cons rfl (fun KQ hKQ => ?_) (AllReadyH.cons rfl (fun KQ hKQ => ?_) AllReadyH.nil))
          · go_simp
            go_at_call 17
            refine (within_some W p a0 cap xs c h _ hS.out.tape (by have := HC.out; omega) (by have := HC.out; omega) (by have := HH.out; omega) (by have := HH.out; omega)).mono ?_; rintro e wn ⟨x0, y0, x1, y1, rfl, hx, hy, hT, hg⟩
            replace hS := Lib.hid (hS.out.draw hT hg)
            have HX := Lib.hid (And.intro hx hy)
            clear hT hg hx hy
            go_wp2_with fail
            refine hKQ.out _ _ ⟨⟨_, hS.out.en.box pb (by simp)⟩, rfl⟩ (fun hHeld2 => ?_)
            (try simp only [Act.put, List.setIfInBounds_toArray, List.set_cons_zero, List.set_cons_succ])
            exact hfr.out _ _ _ _ (N4_8_10_16_18.out gK cK K q f s x0 y0 x1 y1 bq wn HK HE HS4 HX hS)
          · go_simp
            go_wp2_with fail
            have hSn := hS.out.new2 (.int .i64 0) (.int .i64 0) 38
            obtain ⟨be, eb⟩ : ∃ x, wx.heap.size = x := ⟨_, rfl⟩
            obtain ⟨wn, ew⟩ : ∃ x, wx.alloc (.cells #[.int .i64 0, .int .i64 0] 38) = x := ⟨_, rfl⟩
            rw [ew, eb] at hSn
            simp only [ew, eb]
            replace hS := Lib.hid hSn
            clear hSn ew eb
            replace hS := Lib.hid (hS.out.pull 1 rfl rfl)
            refine hKQ.out _ _ ⟨⟨_, hS.out.en.box pb (by simp)⟩, rfl⟩ (fun hHeld2 => ?_)
            (try simp only [Act.put, List.setIfInBounds_toArray, List.set_cons_zero, List.set_cons_succ])
            exact hfr.out _ _ _ _ (N4_8_10_17_18.out gK cK K q f s be bq wn HK HE HS4 hS))
        have N4_8_17_18 : Hid (∀ (gK cK : Nat) (K : List Int) (q f : Int) (be : Nat) (bq : Nat) (wx : World), Hid ((K.length : Int) = ab ∧ Small K) → Hid ((0 ≤ q ∧ q ≤ 3) ∧ (q = 3 ∨ f = 0) ∧ (f = 0 ∨ f = m ∨ f = m.tdiv 2)) → Hid (St W p a0 cap xs [.pix gK cK K, .two be (.int .i64 0) (.int .i64 0), .box bq (.int .i64 0) (.int .i64 0) (.int .i64 0) (.int .i64 0), .box pb (.int .i64 c) (.int .i64 h) (.int .i64 m) (.slice (some ⟨g, 0, none⟩) l l), .pix g l L] wx) → F 6 #[true, true, true, true, true, true, true, true, true, true, false, true, true, true, true, true, false, true, true, false, false, false, false] { tmps := #[Value.slice a0 xs.length cap, Value.agg #[Value.int IntKind.i64 ra, Value.int IntKind.i64 rb, Value.int IntKind.i64 rc, Value.int IntKind.i64 rd], undef, Value.pointer (some { block := tb, off := 0 }), u4, Value.pointer (some { block := p, off := 0 }), Value.int IntKind.i64 ↑k, Value.pointer (some { block := pb, off := 0 }), Value.int IntKind.i64 a, Value.int IntKind.i64 b, u10, .pointer (some ⟨be, 0, none⟩), u12, .pointer (some ⟨bq, 0, none⟩), u14, u15, u16, u17, Value.slice a0 xs.length cap, Value.pointer (some { block := p, off := 0 }), Value.int IntKind.i64 ↑k, Value.bool true, u22, u23, Value.pointer (some { block := p, off := 0 }), Value.agg #[Value.int IntKind.i64 c, Value.int IntKind.i64 h, Value.int IntKind.i64 m, Value.slice (some { block := g, off := 0 }) l l], Value.pointer (some { block := p, off := 0 }), Value.slice (some { block := w3.heap.size, off := 0 }) 5 5, Value.int IntKind.i64 a, Value.pointer (some { block := p, off := 0 }), Value.slice (some { block := w4.heap.size, off := 0 }) 3 3, Value.int IntKind.i64 b, Value.pointer (some { block := p, off := 0 }), Value.int IntKind.i64 a, Value.int IntKind.i64 b, Value.int IntKind.i64 ab, .slice (some ⟨gK, 0, none⟩) K.length cK, Value.pointer (some { block := p, off := 0 }), Value.pointer (some { block := pb, off := 2 }), Value.int IntKind.i64 m, .agg #[.int .i64 q, .int .i64 f], Value.pointer (some { block := p, off := 0 }), u42, Value.pointer (some { block := p, off := 0 }), Value.pointer (some { block := pb, off := 0 }), Value.int IntKind.i64 c, Value.pointer (some { block := pb, off := 1 }), Value.int IntKind.i64 h, u48, u49, u50, u51, u52, u53, u54, u55, u56, u57, u58, u59, u60, u61, u62, u63, u64, u65, u66, u67, u68, u69, u70, u71, u72, u73, u74, u75, u76, u77, u78, u79, u80, u81, u82, u83, u84, u85, u86, u87, u88, u89, u90, u91, u92, u93, u94, u95, undef], defers := [] } wx) := Lib.hid (by
          intro gK cK K q f be bq wx HK HE hS
          refine hto.out _ _ _ _ ?_
          have hHeld : InW (B4 pb (.int .i64 c) (.int .i64 h) (.int .i64 m) (.slice (some ⟨g, 0, none⟩) l l)) wx := ⟨⟨_, hS.out.en.box pb (by simp)⟩, rfl⟩
          refine wpAnyH_ready (rs := [10]) (by kernel_rfl) (by simp) (AllReadyH.cons rfl (fun KQ hKQ => ?_) AllReadyH.nil)
          go_simp
          go_at_call 9
          refine (next_some W p a0 cap xs _ _ hS.out.tape (by omega) (by omega)).mono ?_; rintro e wn ⟨s, rfl, hs4, hT, hg⟩
          replace hS := Lib.hid (hS.out.draw hT hg)
          have HS4 := Lib.hid hs4
          clear hT hg hs4
          go_wp2_with fail
          refine hKQ.out _ _ ⟨⟨_, hS.out.en.box pb (by simp)⟩, rfl⟩ (fun hHeld2 => ?_)
          (try simp only [Act.put, List.setIfInBounds_toArray, List.set_cons_zero, List.set_cons_succ])
          exact hfr.out _ _ _ _ (N4_8_10_17_18.out gK cK K q f s be bq wn HK HE HS4 hS))
        have N4_8_10 : Hid (∀ (gK cK : Nat) (K : List Int) (q f : Int) (s : Int) (wx : World), Hid ((K.length : Int) = ab ∧ Small K) → Hid ((0 ≤ q ∧ q ≤ 3) ∧ (q = 3 ∨ f = 0) ∧ (f = 0 ∨ f = m ∨ f = m.tdiv 2)) → Hid (0 ≤ s ∧ s < 6) → Hid (St W p a0 cap xs [.pix gK cK K, .box pb (.int .i64 c) (.int .i64 h) (.int .i64 m) (.slice (some ⟨g, 0, none⟩) l l), .pix g l L] wx) → F 7 #[true, true, true, true, true, true, true, true, true, true, true, true, true, true, true, true, false, false, false, false, false, false, false] { tmps := #[Value.slice a0 xs.length cap, Value.agg #[Value.int IntKind.i64 ra, Value.int IntKind.i64 rb, Value.int IntKind.i64 rc, Value.int IntKind.i64 rd], undef, Value.pointer (some { block := tb, off := 0 }), u4, Value.pointer (some { block := p, off := 0 }), Value.int IntKind.i64 ↑k, Value.pointer (some { block := pb, off := 0 }), Value.int IntKind.i64 a, Value.int IntKind.i64 b, u10, u11, u12, u13, u14, u15, u16, u17, Value.slice a0 xs.length cap, Value.pointer (some { block := p, off := 0 }), Value.int IntKind.i64 ↑k, Value.bool true, u22, u23, Value.pointer (some { block := p, off := 0 }), Value.agg #[Value.int IntKind.i64 c, Value.int IntKind.i64 h, Value.int IntKind.i64 m, Value.slice (some { block := g, off := 0 }) l l], Value.pointer (some { block := p, off := 0 }), Value.slice (some { block := w3.heap.size, off := 0 }) 5 5, Value.int IntKind.i64 a, Value.pointer (some { block := p, off := 0 }), Value.slice (some { block := w4.heap.size, off := 0 }) 3 3, Value.int IntKind.i64 b, Value.pointer (some { block := p, off := 0 }), Value.int IntKind.i64 a, Value.int IntKind.i64 b, Value.int IntKind.i64 ab, .slice (some ⟨gK, 0, none⟩) K.length cK, Value.pointer (some { block := p, off := 0 }), Value.pointer (some { block := pb, off := 2 }), Value.int IntKind.i64 m, .agg #[.int .i64 q, .int .i64 f], Value.pointer (some { block := p, off := 0 }), .int .i64 s, Value.pointer (some { block := p, off := 0 }), Value.pointer (some { block := pb, off := 0 }), Value.int IntKind.i64 c, Value.pointer (some { block := pb, off := 1 }), Value.int IntKind.i64 h, u48, u49, u50, u51, u52, u53, u54, u55, u56, u57, u58, u59, u60, u61, u62, u63, u64, u65, u66, u67, u68, u69, u70, u71, u72, u73, u74, u75, u76, u77, u78, u79, u80, u81, u82, u83, u84, u85, u86, u87, u88, u89, u90, u91, u92, u93, u94, u95, undef], defers := [] } wx) := Lib.hid (by
          intro gK cK K q f s wx HK HE HS4 hS
          refine hto.out _ _ _ _ ?_
          have hHeld : InW (B4 pb (.int .i64 c) (.int .i64 h) (.int .i64 m) (.slice (some ⟨g, 0, none⟩) l l)) wx := ⟨⟨_, hS.out.en.box pb (by simp)⟩, rfl⟩
          refine wpAnyH_ready (rs := [16, 17, 18]) (by kernel_rfl) (by simp) (AllReadyH.cons rfl (fun KQ hKQ => ?_) (AllReadyH.cons rfl (fun KQ hKQ => ?_) (AllReadyH.cons rfl (fun KQ hKQ => ?_) AllReadyH.nil)))
          · go_simp
            go_at_call 17
            refine (within_some W p a0 cap xs c h _ hS.out.tape (by have := HC.out; omega) (by have := HC.out; omega) (by have := HH.out; omega) (by have := HH.out; omega)).mono ?_; rintro e wn ⟨x0, y0, x1, y1, rfl, hx, hy, hT, hg⟩
            replace hS := Lib.hid (hS.out.draw hT hg)
            have HX := Lib.hid (And.intro hx hy)
            clear hT hg hx hy
            go_wp2_with fail
            refine hKQ.out _ _ ⟨⟨_, hS.out.en.box pb (by simp)⟩, rfl⟩ (fun hHeld2 => ?_)
            (try simp only [Act.put, List.setIfInBounds_toArray, List.set_cons_zero, List.set_cons_succ])
            exact hfr.out _ _ _ _ (N4_8_10_16.out gK cK K q f s x0 y0 x1 y1 wn HK HE HS4 HX hS)
          · go_simp
            go_wp2_with fail
            have hSn := hS.out.new2 (.int .i64 0) (.int .i64 0) 38
            obtain ⟨be, eb⟩ : ∃ x, wx.heap.size = x := ⟨_, rfl⟩
            obtain ⟨wn, ew⟩ : ∃ x, wx.alloc (.cells #[.int .i64 0, .int .i64 0] 38) = x := ⟨_, rfl⟩
            rw [ew, eb] at hSn
            simp only [ew, eb]
            replace hS := Lib.hid hSn
            clear hSn ew eb
            replace hS := Lib.hid (hS.out.pull 1 rfl rfl)
            refine hKQ.out _ _ ⟨⟨_, hS.out.en.box pb (by simp)⟩, rfl⟩ (fun hHeld2 => ?_)
            (try simp only [Act.put, List.setIfInBounds_toArray, List.set_cons_zero, List.set_cons_succ])
            exact hfr.out _ _ _ _ (N4_8_10_17.out gK cK K q f s be wn HK HE HS4 hS)
          · go_simp
            go_wp2_with fail
            have hSn := hS.out.new (.int .i64 0) (.int .i64 0) (.int .i64 0) (.int .i64 0) 33
            obtain ⟨bq, eb⟩ : ∃ x, wx.heap.size = x := ⟨_, rfl⟩
            obtain ⟨wn, ew⟩ : ∃ x, wx.alloc (.cells #[.int .i64 0, .int .i64 0, .int .i64 0, .int .i64 0] 33) = x := ⟨_, rfl⟩
            rw [ew, eb] at hSn
            simp only [ew, eb]
            replace hS := Lib.hid hSn
            clear hSn ew eb
            replace hS := Lib.hid (hS.out.pull 1 rfl rfl)
            refine hKQ.out _ _ ⟨⟨_, hS.out.en.box pb (by simp)⟩, rfl⟩ (fun hHeld2 => ?_)
            (try simp only [Act.put, List.setIfInBounds_toArray, List.set_cons_zero, List.set_cons_succ])
            exact hfr.out _ _ _ _ (N4_8_10_18.out gK cK K q f s bq wn HK HE HS4 hS))
        have N4_8_17 : Hid (∀ (gK cK : Nat) (K : List Int) (q f : Int) (be : Nat) (wx : World), Hid ((K.length : Int) = ab ∧ Small K) → Hid ((0 ≤ q ∧ q ≤ 3) ∧ (q = 3 ∨ f = 0) ∧ (f = 0 ∨ f = m ∨ f = m.tdiv 2)) → Hid (St W p a0 cap xs [.pix gK cK K, .two be (.int .i64 0) (.int .i64 0), .box pb (.int .i64 c) (.int .i64 h) (.int .i64 m) (.slice (some ⟨g, 0, none⟩) l l), .pix g l L] wx) → F 7 #[true, true, true, true, true, true, true, true, true, true, false, true, true, true, true, true, false, true, false, false, false, false, false] { tmps := #[Value.slice a0 xs.length cap, Value.agg #[Value.int IntKind.i64 ra, Value.int IntKind.i64 rb, Value.int IntKind.i64 rc, Value.int IntKind.i64 rd], undef, Value.pointer (some { block := tb, off := 0 }), u4, Value.pointer (some { block := p, off := 0 }), Value.int IntKind.i64 ↑k, Value.pointer (some { block := pb, off := 0 }), Value.int IntKind.i64 a, Value.int IntKind.i64 b, u10, .pointer (some ⟨be, 0, none⟩), u12, u13, u14, u15, u16, u17, Value.slice a0 xs.length cap, Value.pointer (some { block := p, off := 0 }), Value.int IntKind.i64 ↑k, Value.bool true, u22, u23, Value.pointer (some { block := p, off := 0 }), Value.agg #[Value.int IntKind.i64 c, Value.int IntKind.i64 h, Value.int IntKind.i64 m, Value.slice (some { block := g, off := 0 }) l l], Value.pointer (some { block := p, off := 0 }), Value.slice (some { block := w3.heap.size, off := 0 }) 5 5, Value.int IntKind.i64 a, Value.pointer (some { block := p, off := 0 }), Value.slice (some { block := w4.heap.size, off := 0 }) 3 3, Value.int IntKind.i64 b, Value.pointer (some { block := p, off := 0 }), Value.int IntKind.i64 a, Value.int IntKind.i64 b, Value.int IntKind.i64 ab, .slice (some ⟨gK, 0, none⟩) K.length cK, Value.pointer (some { block := p, off := 0 }), Value.pointer (some { block := pb, off := 2 }), Value.int IntKind.i64 m, .agg #[.int .i64 q, .int .i64 f], Value.pointer (some { block := p, off := 0 }), u42, Value.pointer (some { block := p, off := 0 }), Value.pointer (some { block := pb, off := 0 }), Value.int IntKind.i64 c, Value.pointer (some { block := pb, off := 1 }), Value.int IntKind.i64 h, u48, u49, u50, u51, u52, u53, u54, u55, u56, u57, u58, u59, u60, u61, u62, u63, u64, u65, u66, u67, u68, u69, u70, u71, u72, u73, u74, u75, u76, u77, u78, u79, u80, u81, u82, u83, u84, u85, u86, u87, u88, u89, u90, u91, u92, u93, u94, u95, undef], defers := [] } wx) := Lib.hid (by
          intro gK cK K q f be wx HK HE hS
          refine hto.out _ _ _ _ ?_
          have hHeld : InW (B4 pb (.int .i64 c) (.int .i64 h) (.int .i64 m) (.slice (some ⟨g, 0, none⟩) l l)) wx := ⟨⟨_, hS.out.en.box pb (by simp)⟩, rfl⟩
          refine wpAnyH_ready (rs := [10, 18]) (by kernel_rfl) (by simp) (AllReadyH.cons rfl (fun KQ hKQ => ?_) (AllReadyH.cons rfl (fun KQ hKQ => ?_) AllReadyH.nil))
          · go_simp
            go_at_call 9
            refine (next_some W p a0 cap xs _ _ hS.out.tape (by omega) (by omega)).mono ?_; rintro e wn ⟨s, rfl, hs4, hT, hg⟩
            replace hS := Lib.hid (hS.out.draw hT hg)
            have HS4 := Lib.hid hs4
            clear hT hg hs4
            go_wp2_with fail
            refine hKQ.out _ _ ⟨⟨_, hS.out.en.box pb (by simp)⟩, rfl⟩ (fun hHeld2 => ?_)
            (try simp only [Act.put, List.setIfInBounds_toArray, List.set_cons_zero, List.set_cons_succ])
            exact hfr.out _ _ _ _ (N4_8_10_17.out gK cK K q f s be wn HK HE HS4 hS)
          · go_simp
            go_wp2_with fail
            have hSn := hS.out.new (.int .i64 0) (.int .i64 0) (.int .i64 0) (.int .i64 0) 33
            obtain ⟨bq, eb⟩ : ∃ x, wx.heap.size = x := ⟨_, rfl⟩
            obtain ⟨wn, ew⟩ : ∃ x, wx.alloc (.cells #[.int .i64 0, .int .i64 0, .int .i64 0, .int .i64 0] 33) = x := ⟨_, rfl⟩
            rw [ew, eb] at hSn
            simp only [ew, eb]
            replace hS := Lib.hid hSn
            clear hSn ew eb
            replace hS := Lib.hid (hS.out.pull 2 rfl rfl)
            replace hS := Lib.hid (hS.out.pull 2 rfl rfl)
            refine hKQ.out _ _ ⟨⟨_, hS.out.en.box pb (by simp)⟩, rfl⟩ (fun hHeld2 => ?_)
            (try simp only [Act.put, List.setIfInBounds_toArray, List.set_cons_zero, List.set_cons_succ])
            exact hfr.out _ _ _ _ (N4_8_17_18.out gK cK K q f be bq wn HK HE hS))
        have N4_8_18 : Hid (∀ (gK cK : Nat) (K : List Int) (q f : Int) (bq : Nat) (wx : World), Hid ((K.length : Int) = ab ∧ Small K) → Hid ((0 ≤ q ∧ q ≤ 3) ∧ (q = 3 ∨ f = 0) ∧ (f = 0 ∨ f = m ∨ f = m.tdiv 2)) → Hid (St W p a0 cap xs [.pix gK cK K, .box bq (.int .i64 0) (.int .i64 0) (.int .i64 0) (.int .i64 0), .box pb (.int .i64 c) (.int .i64 h) (.int .i64 m) (.slice (some ⟨g, 0, none⟩) l l), .pix g l L] wx) → F 7 #[true, true, true, true, true, true, true, true, true, true, false, true, true, true, true, true, false, false, true, false, false, false, false] { tmps := #[Value.slice a0 xs.length cap, Value.agg #[Value.int IntKind.i64 ra, Value.int IntKind.i64 rb, Value.int IntKind.i64 rc, Value.int IntKind.i64 rd], undef, Value.pointer (some { block := tb, off := 0 }), u4, Value.pointer (some { block := p, off := 0 }), Value.int IntKind.i64 ↑k, Value.pointer (some { block := pb, off := 0 }), Value.int IntKind.i64 a, Value.int IntKind.i64 b, u10, u11, u12, .pointer (some ⟨bq, 0, none⟩), u14, u15, u16, u17, Value.slice a0 xs.length cap, Value.pointer (some { block := p, off := 0 }), Value.int IntKind.i64 ↑k, Value.bool true, u22, u23, Value.pointer (some { block := p, off := 0 }), Value.agg #[Value.int IntKind.i64 c, Value.int IntKind.i64 h, Value.int IntKind.i64 m, Value.slice (some { block := g, off := 0 }) l l], Value.pointer (some { block := p, off := 0 }), Value.slice (some { block := w3.heap.size, off := 0 }) 5 5, Value.int IntKind.i64 a, Value.pointer (some { block := p, off := 0 }), Value.slice (some { block := w4.heap.size, off := 0 }) 3 3, Value.int IntKind.i64 b, Value.pointer (some { block := p, off := 0 }), Value.int IntKind.i64 a, Value.int IntKind.i64 b, Value.int IntKind.i64 ab, .slice (some ⟨gK, 0, none⟩) K.length cK, Value.pointer (some { block := p, off := 0 }), Value.pointer (some { block := pb, off := 2 }), Value.int IntKind.i64 m, .agg #[.int .i64 q, .int .i64 f], Value.pointer (some { block := p, off := 0 }), u42, Value.pointer (some { block := p, off := 0 }), Value.pointer (some { block := pb, off := 0 }), Value.int IntKind.i64 c, Value.pointer (some { block := pb, off := 1 }), Value.int IntKind.i64 h, u48, u49, u50, u51, u52, u53, u54, u55, u56, u57, u58, u59, u60, u61, u62, u63, u64, u65, u66, u67, u68, u69, u70, u71, u72, u73, u74, u75, u76, u77, u78, u79, u80, u81, u82, u83, u84, u85, u86, u87, u88, u89, u90, u91, u92, u93, u94, u95, undef], defers := [] } wx) := Lib.hid (by
          intro gK cK K q f bq wx HK HE hS
          refine hto.out _ _ _ _ ?_
          have hHeld : InW (B4 pb (.int .i64 c) (.int .i64 h) (.int .i64 m) (.slice (some ⟨g, 0, none⟩) l l)) wx := ⟨⟨_, hS.out.en.box pb (by simp)⟩, rfl⟩
          refine wpAnyH_ready (rs := [10, 17]) (by kernel_rfl) (by simp) (AllReadyH.cons rfl (fun KQ hKQ => ?_) (AllReadyH.cons rfl (fun KQ hKQ => ?_) AllReadyH.nil))
          · go_simp
            go_at_call 9
            refine (next_some W p a0 cap xs _ _ hS.out.tape (by omega) (by omega)).mono ?_; rintro e wn ⟨s, rfl, hs4, hT, hg⟩
            replace hS := Lib.hid (hS.out.draw hT hg)
            have HS4 := Lib.hid hs4
            clear hT hg hs4
            go_wp2_with fail
            refine hKQ.out _ _ ⟨⟨_, hS.out.en.box pb (by simp)⟩, rfl⟩ (fun hHeld2 => ?_)
            (try simp only [Act.put, List.setIfInBounds_toArray, List.set_cons_zero, List.set_cons_succ])
            exact hfr.out _ _ _ _ (N4_8_10_18.out gK cK K q f s bq wn HK HE HS4 hS)
          · go_simp
            go_wp2_with fail
            have hSn := hS.out.new2 (.int .i64 0) (.int .i64 0) 38
            obtain ⟨be, eb⟩ : ∃ x, wx.heap.size = x := ⟨_, rfl⟩
            obtain ⟨wn, ew⟩ : ∃ x, wx.alloc (.cells #[.int .i64 0, .int .i64 0] 38) = x := ⟨_, rfl⟩
            rw [ew, eb] at hSn
            simp only [ew, eb]
            replace hS := Lib.hid hSn
            clear hSn ew eb
            replace hS := Lib.hid (hS.out.pull 1 rfl rfl)
            refine hKQ.out _ _ ⟨⟨_, hS.out.en.box pb (by simp)⟩, rfl⟩ (fun hHeld2 => ?_)
            (try simp only [Act.put, List.setIfInBounds_toArray, List.set_cons_zero, List.set_cons_succ])
            exact hfr.out _ _ _ _ (N4_8_17_18.out gK cK K q f be bq wn HK HE hS))
        have N4_17_18 : Hid (∀ (gK cK : Nat) (K : List Int) (be : Nat) (bq : Nat) (wx : World), Hid ((K.length : Int) = ab ∧ Small K) → Hid (St W p a0 cap xs [.pix gK cK K, .two be (.int .i64 0) (.int .i64 0), .box bq (.int .i64 0) (.int .i64 0) (.int .i64 0) (.int .i64 0), .box pb (.int .i64 c) (.int .i64 h) (.int .i64 m) (.slice (some ⟨g, 0, none⟩) l l), .pix g l L] wx) → F 7 #[true, true, true, true, true, true, true, true, false, true, false, true, true, true, true, true, false, true, true, false, false, false, false] { tmps := #[Value.slice a0 xs.length cap, Value.agg #[Value.int IntKind.i64 ra, Value.int IntKind.i64 rb, Value.int IntKind.i64 rc, Value.int IntKind.i64 rd], undef, Value.pointer (some { block := tb, off := 0 }), u4, Value.pointer (some { block := p, off := 0 }), Value.int IntKind.i64 ↑k, Value.pointer (some { block := pb, off := 0 }), Value.int IntKind.i64 a, Value.int IntKind.i64 b, u10, .pointer (some ⟨be, 0, none⟩), u12, .pointer (some ⟨bq, 0, none⟩), u14, u15, u16, u17, Value.slice a0 xs.length cap, Value.pointer (some { block := p, off := 0 }), Value.int IntKind.i64 ↑k, Value.bool true, u22, u23, Value.pointer (some { block := p, off := 0 }), Value.agg #[Value.int IntKind.i64 c, Value.int IntKind.i64 h, Value.int IntKind.i64 m, Value.slice (some { block := g, off := 0 }) l l], Value.pointer (some { block := p, off := 0 }), Value.slice (some { block := w3.heap.size, off := 0 }) 5 5, Value.int IntKind.i64 a, Value.pointer (some { block := p, off := 0 }), Value.slice (some { block := w4.heap.size, off := 0 }) 3 3, Value.int IntKind.i64 b, Value.pointer (some { block := p, off := 0 }), Value.int IntKind.i64 a, Value.int IntKind.i64 b, Value.int IntKind.i64 ab, .slice (some ⟨gK, 0, none⟩) K.length cK, Value.pointer (some { block := p, off := 0 }), Value.pointer (some { block := pb, off := 2 }), Value.int IntKind.i64 m, u40, Value.pointer (some { block := p, off := 0 }), u42, Value.pointer (some { block := p, off := 0 }), Value.pointer (some { block := pb, off := 0 }), Value.int IntKind.i64 c, Value.pointer (some { block := pb, off := 1 }), Value.int IntKind.i64 h, u48, u49, u50, u51, u52, u53, u54, u55, u56, u57, u58, u59, u60, u61, u62, u63, u64, u65, u66, u67, u68, u69, u70, u71, u72, u73, u74, u75, u76, u77, u78, u79, u80, u81, u82, u83, u84, u85, u86, u87, u88, u89, u90, u91, u92, u93, u94, u95, undef], defers := [] } wx) := Lib.hid (by
          intro gK cK K be bq wx HK hS
          refine hto.out _ _ _ _ ?_
          have hHeld : InW (B4 pb (.int .i64 c) (.int .i64 h) (.int .i64 m) (.slice (some ⟨g, 0, none⟩) l l)) wx := ⟨⟨_, hS.out.en.box pb (by simp)⟩, rfl⟩
          refine wpAnyH_ready (rs := [8]) (by kernel_rfl) (by simp) (AllReadyH.cons rfl (fun KQ hKQ => ?_) AllReadyH.nil)
          go_simp
          go_at_call 16
          refine (edge_tape W p a0 cap xs m _ hS.out.tape (by have := HM.out; omega) (by have := HM.out; omega)).mono ?_; rintro e wn ⟨q, f, rfl, hq1, hq2, hq3, hT, hg⟩
          replace hS := Lib.hid (hS.out.draw hT hg)
          have HE := Lib.hid (And.intro hq1 (And.intro hq2 hq3))
          clear hT hg hq1 hq2 hq3
          go_wp2_with fail
          refine hKQ.out _ _ ⟨⟨_, hS.out.en.box pb (by simp)⟩, rfl⟩ (fun hHeld2 => ?_)
          (try simp only [Act.put, List.setIfInBounds_toArray, List.set_cons_zero, List.set_cons_succ])
          exact hfr.out _ _ _ _ (N4_8_17_18.out gK cK K q f be bq wn HK HE hS))
        have N4_8 : Hid (∀ (gK cK : Nat) (K : List Int) (q f : Int) (wx : World), Hid ((K.length : Int) = ab ∧ Small K) → Hid ((0 ≤ q ∧ q ≤ 3) ∧ (q = 3 ∨ f = 0) ∧ (f = 0 ∨ f = m ∨ f = m.tdiv 2)) → Hid (St W p a0 cap xs [.pix gK cK K, .box pb (.int .i64 c) (.int .i64 h) (.int .i64 m) (.slice (some ⟨g, 0, none⟩) l l), .pix g l L] wx) → F 8 #[true, true, true, true, true, true, true, true, true, true, false, true, true, true, true, true, false, false, false, false, false, false, false] { tmps := #[Value.slice a0 xs.length cap, Value.agg #[Value.int IntKind.i64 ra, Value.int IntKind.i64 rb, Value.int IntKind.i64 rc, Value.int IntKind.i64 rd], undef, Value.pointer (some { block := tb, off := 0 }), u4, Value.pointer (some { block := p, off := 0 }), Value.int IntKind.i64 ↑k, Value.pointer (some { block := pb, off := 0 }), Value.int IntKind.i64 a, Value.int IntKind.i64 b, u10, u11, u12, u13, u14, u15, u16, u17, Value.slice a0 xs.length cap, Value.pointer (some { block := p, off := 0 }), Value.int IntKind.i64 ↑k, Value.bool true, u22, u23, Value.pointer (some { block := p, off := 0 }), Value.agg #[Value.int IntKind.i64 c, Value.int IntKind.i64 h, Value.int IntKind.i64 m, Value.slice (some { block := g, off := 0 }) l l], Value.pointer (some { block := p, off := 0 }), Value.slice (some { block := w3.heap.size, off := 0 }) 5 5, Value.int IntKind.i64 a, Value.pointer (some { block := p, off := 0 }), Value.slice (some { block := w4.heap.size, off := 0 }) 3 3, Value.int IntKind.i64 b, Value.pointer (some { block := p, off := 0 }), Value.int IntKind.i64 a, Value.int IntKind.i64 b, Value.int IntKind.i64 ab, .slice (some ⟨gK, 0, none⟩) K.length cK, Value.pointer (some { block := p, off := 0 }), Value.pointer (some { block := pb, off := 2 }), Value.int IntKind.i64 m, .agg #[.int .i64 q, .int .i64 f], Value.pointer (some { block := p, off := 0 }), u42, Value.pointer (some { block := p, off := 0 }), Value.pointer (some { block := pb, off := 0 }), Value.int IntKind.i64 c, Value.pointer (some { block := pb, off := 1 }), Value.int IntKind.i64 h, u48, u49, u50, u51, u52, u53, u54, u55, u56, u57, u58, u59, u60, u61, u62, u63, u64, u65, u66, u67, u68, u69, u70, u71, u72, u73, u74, u75, u76, u77, u78, u79, u80, u81, u82, u83, u84, u85, u86, u87, u88, u89, u90, u91, u92, u93, u94, u95, undef], defers := [] } wx) := Lib.hid (by
          intro gK cK K q f wx HK HE hS
          refine hto.out _ _ _ _ ?_
          have hHeld : InW (B4 pb (.int .i64 c) (.int .i64 h) (.int .i64 m) (.slice (some ⟨g, 0, none⟩) l l)) wx := ⟨⟨_, hS.out.en.box pb (by simp)⟩, rfl⟩
          refine wpAnyH_ready (rs := [10, 17, 18]) (by kernel_rfl) (by simp) (AllReadyH.cons rfl (fun KQ hKQ => ?_) (AllReadyH.cons rfl (fun KQ hKQ => ?_) (AllReadyH.cons rfl (fun KQ hKQ => ?_) AllReadyH.nil)))
          · go_simp
            go_at_call 9
            refine (next_some W p a0 cap xs _ _ hS.out.tape (by omega) (by omega)).mono ?_; rintro e wn ⟨s, rfl, hs4, hT, hg⟩
            replace hS := Lib.hid (hS.out.draw hT hg)
            have HS4 := Lib.hid hs4
            clear hT hg hs4
            go_wp2_with fail
            refine hKQ.out _ _ ⟨⟨_, hS.out.en.box pb (by simp)⟩, rfl⟩ (fun hHeld2 => ?_)
            (try simp only [Act.put, List.setIfInBounds_toArray, List.set_cons_zero, List.set_cons_succ])
            exact hfr.out _ _ _ _ (N4_8_10.out gK cK K q f s wn HK HE HS4 hS)
          · go_simp
            go_wp2_with fail
            have hSn := hS.out.new2 (.int .i64 0) (.int .i64 0) 38
            obtain ⟨be, eb⟩ : ∃ x, wx.heap.size = x := ⟨_, rfl⟩
            obtain ⟨wn, ew⟩ : ∃ x, wx.alloc (.cells #[.int .i64 0, .int .i64 0] 38) = x := ⟨_, rfl⟩
            rw [ew, eb] at hSn
            simp only [ew, eb]
            replace hS := Lib.hid hSn
            clear hSn ew eb
            replace hS := Lib.hid (hS.out.pull 1 rfl rfl)
            refine hKQ.out _ _ ⟨⟨_, hS.out.en.box pb (by simp)⟩, rfl⟩ (fun hHeld2 => ?_)
            (try simp only [Act.put, List.setIfInBounds_toArray, List.set_cons_zero, List.set_cons_succ])
            exact hfr.out _ _ _ _ (N4_8_17.out gK cK K q f be wn HK HE hS)
          · go_simp
            go_wp2_with fail
            have hSn := hS.out.new (.int .i64 0) (.int .i64 0) (.int .i64 0) (.int .i64 0) 33
            obtain ⟨bq, eb⟩ : ∃ x, wx.heap.size = x := ⟨_, rfl⟩
            obtain ⟨wn, ew⟩ : ∃ x, wx.alloc (.cells #[.int .i64 0, .int .i64 0, .int .i64 0, .int .i64 0] 33) = x := ⟨_, rfl⟩
            rw [ew, eb] at hSn
            simp only [ew, eb]
            replace hS := Lib.hid hSn
            clear hSn ew eb
            replace hS := Lib.hid (hS.out.pull 1 rfl rfl)
            refine hKQ.out _ _ ⟨⟨_, hS.out.en.box pb (by simp)⟩, rfl⟩ (fun hHeld2 => ?_)
            (try simp only [Act.put, List.setIfInBounds_toArray, List.set_cons_zero, List.set_cons_succ])
            exact hfr.out _ _ _ _ (N4_8_18.out gK cK K q f bq wn HK HE hS))
        have N4_17 : Hid (∀ (gK cK : Nat) (K : List Int) (be : Nat) (wx : World), Hid ((K.length : Int) = ab ∧ Small K) → Hid (St W p a0 cap xs [.pix gK cK K, .two be (.int .i64 0) (.int .i64 0), .box pb (.int .i64 c) (.int .i64 h) (.int .i64 m) (.slice (some ⟨g, 0, none⟩) l l), .pix g l L] wx) → F 8 #[true, true, true, true, true, true, true, true, false, true, false, true, true, true, true, true, false, true, false, false, false, false, false] { tmps := #[Value.slice a0 xs.length cap, Value.agg #[Value.int IntKind.i64 ra, Value.int IntKind.i64 rb, Value.int IntKind.i64 rc, Value.int IntKind.i64 rd], undef, Value.pointer (some { block := tb, off := 0 }), u4, Value.pointer (some { block := p, off := 0 }), Value.int IntKind.i64 ↑k, Value.pointer (some { block := pb, off := 0 }), Value.int IntKind.i64 a, Value.int IntKind.i64 b, u10, .pointer (some ⟨be, 0, none⟩), u12, u13, u14, u15, u16, u17, Value.slice a0 xs.length cap, Value.pointer (some { block := p, off := 0 }), Value.int IntKind.i64 ↑k, Value.bool true, u22, u23, Value.pointer (some { block := p, off := 0 }), Value.agg #[Value.int IntKind.i64 c, Value.int IntKind.i64 h, Value.int IntKind.i64 m, Value.slice (some { block := g, off := 0 }) l l], Value.pointer (some { block := p, off := 0 }), Value.slice (some { block := w3.heap.size, off := 0 }) 5 5, Value.int IntKind.i64 a, Value.pointer (some { block := p, off := 0 }), Value.slice (some { block := w4.heap.size, off := 0 }) 3 3, Value.int IntKind.i64 b, Value.pointer (some { block := p, off := 0 }), Value.int IntKind.i64 a, Value.int IntKind.i64 b, Value.int IntKind.i64 ab, .slice (some ⟨gK, 0, none⟩) K.length cK, Value.pointer (some { block := p, off := 0 }), Value.pointer (some { block := pb, off := 2 }), Value.int IntKind.i64 m, u40, Value.pointer (some { block := p, off := 0 }), u42, Value.pointer (some { block := p, off := 0 }), Value.pointer (some { block := pb, off := 0 }), Value.int IntKind.i64 c, Value.pointer (some { block := pb, off := 1 }), Value.int IntKind.i64 h, u48, u49, u50, u51, u52, u53, u54, u55, u56, u57, u58, u59, u60, u61, u62, u63, u64, u65, u66, u67, u68, u69, u70, u71, u72, u73, u74, u75, u76, u77, u78, u79, u80, u81, u82, u83, u84, u85, u86, u87, u88, u89, u90, u91, u92, u93, u94, u95, undef], defers := [] } wx) := Lib.hid (by
          intro gK cK K be wx HK hS
          refine hto.out _ _ _ _ ?_
          have hHeld : InW (B4 pb (.int .i64 c) (.int .i64 h) (.int .i64 m) (.slice (some ⟨g, 0, none⟩) l l)) wx := ⟨⟨_, hS.out.en.box pb (by simp)⟩, rfl⟩
          refine wpAnyH_ready (rs := [8, 18]) (by kernel_rfl) (by simp) (AllReadyH.cons rfl (fun KQ hKQ => ?_) (AllReadyH.cons rfl (fun KQ hKQ => ?_) AllReadyH.nil))
          · go_simp
            go_at_call 16
            refine (edge_tape W p a0 cap xs m _ hS.out.tape (by have := HM.out; omega) (by have := HM.out; omega)).mono ?_; rintro e wn ⟨q, f, rfl, hq1, hq2, hq3, hT, hg⟩
            replace hS := Lib.hid (hS.out.draw hT hg)
            have HE := Lib.hid (And.intro hq1 (And.intro hq2 hq3))
            clear hT hg hq1 hq2 hq3
            go_wp2_with fail
            refine hKQ.out _ _ ⟨⟨_, hS.out.en.box pb (by simp)⟩, rfl⟩ (fun hHeld2 => ?_)
            (try simp only [Act.put, List.setIfInBounds_toArray, List.set_cons_zero, List.set_cons_succ])
            exact hfr.out _ _ _ _ (N4_8_17.out gK cK K q f be wn HK HE hS)
          · go_simp
            go_wp2_with fail
            have hSn := hS.out.new (.int .i64 0) (.int .i64 0) (.int .i64 0) (.int .i64 0) 33
            obtain ⟨bq, eb⟩ : ∃ x, wx.heap.size = x := ⟨_, rfl⟩
            obtain ⟨wn, ew⟩ : ∃ x, wx.alloc (.cells #[.int .i64 0, .int .i64 0, .int .i64 0, .int .i64 0] 33) = x := ⟨_, rfl⟩
            rw [ew, eb] at hSn
            simp only [ew, eb]
            replace hS := Lib.hid hSn
            clear hSn ew eb
            replace hS := Lib.hid (hS.out.pull 2 rfl rfl)
            replace hS := Lib.hid (hS.out.pull 2 rfl rfl)
            refine hKQ.out _ _ ⟨⟨_, hS.out.en.box pb (by simp)⟩, rfl⟩ (fun hHeld2 => ?_)
            (try simp only [Act.put, List.setIfInBounds_toArray, List.set_cons_zero, List.set_cons_succ])
            exact hfr.out _ _ _ _ (N4_17_18.out gK cK K be bq wn HK hS))
        have N4_18 : Hid (∀ (gK cK : Nat) (K : List Int) (bq : Nat) (wx : World), Hid ((K.length : Int) = ab ∧ Small K) → Hid (St W p a0 cap xs [.pix gK cK K, .box bq (.int .i64 0) (.int .i64 0) (.int .i64 0) (.int .i64 0), .box pb (.int .i64 c) (.int .i64 h) (.int .i64 m) (.slice (some ⟨g, 0, none⟩) l l), .pix g l L] wx) → F 8 #[true, true, true, true, true, true, true, true, false, true, false, true, true, true, true, true, false, false, true, false, false, false, false] { tmps := #[Value.slice a0 xs.length cap, Value.agg #[Value.int IntKind.i64 ra, Value.int IntKind.i64 rb, Value.int IntKind.i64 rc, Value.int IntKind.i64 rd], undef, Value.pointer (some { block := tb, off := 0 }), u4, Value.pointer (some { block := p, off := 0 }), Value.int IntKind.i64 ↑k, Value.pointer (some { block := pb, off := 0 }), Value.int IntKind.i64 a, Value.int IntKind.i64 b, u10, u11, u12, .pointer (some ⟨bq, 0, none⟩), u14, u15, u16, u17, Value.slice a0 xs.length cap, Value.pointer (some { block := p, off := 0 }), Value.int IntKind.i64 ↑k, Value.bool true, u22, u23, Value.pointer (some { block := p, off := 0 }), Value.agg #[Value.int IntKind.i64 c, Value.int IntKind.i64 h, Value.int IntKind.i64 m, Value.slice (some { block := g, off := 0 }) l l], Value.pointer (some { block := p, off := 0 }), Value.slice (some { block := w3.heap.size, off := 0 }) 5 5, Value.int IntKind.i64 a, Value.pointer (some { block := p, off := 0 }), Value.slice (some { block := w4.heap.size, off := 0 }) 3 3, Value.int IntKind.i64 b, Value.pointer (some { block := p, off := 0 }), Value.int IntKind.i64 a, Value.int IntKind.i64 b, Value.int IntKind.i64 ab, .slice (some ⟨gK, 0, none⟩) K.length cK, Value.pointer (some { block := p, off := 0 }), Value.pointer (some { block := pb, off := 2 }), Value.int IntKind.i64 m, u40, Value.pointer (some { block := p, off := 0 }), u42, Value.pointer (some { block := p, off := 0 }), Value.pointer (some { block := pb, off := 0 }), Value.int IntKind.i64 c, Value.pointer (some { block := pb, off := 1 }), Value.int IntKind.i64 h, u48, u49, u50, u51, u52, u53, u54, u55, u56, u57, u58, u59, u60, u61, u62, u63, u64, u65, u66, u67, u68, u69, u70, u71, u72, u73, u74, u75, u76, u77, u78, u79, u80, u81, u82, u83, u84, u85, u86, u87, u88, u89, u90, u91, u92, u93, u94, u95, undef], defers := [] } wx) := Lib.hid (by
          intro gK cK K bq wx HK hS
          refine hto.out _ _ _ _ ?_
          have hHeld : InW (B4 pb (.int .i64 c) (.int .i64 h) (.int .i64 m) (.slice (some ⟨g, 0, none⟩) l l)) wx := ⟨⟨_, hS.out.en.box pb (by simp)⟩, rfl⟩
          refine wpAnyH_ready (rs := [8, 17]) (by kernel_rfl) (by simp) (AllReadyH.cons rfl (fun KQ hKQ => ?_) (AllReadyH.cons rfl (fun KQ hKQ => ?_) AllReadyH.nil))
          · go_simp
            go_at_call 16
            refine (edge_tape W p a0 cap xs m _ hS.out.tape (by have := HM.out; omega) (by have := HM.out; omega)).mono ?_; rintro e wn ⟨q, f, rfl, hq1, hq2, hq3, hT, hg⟩
            replace hS := Lib.hid (hS.out.draw hT hg)
            have HE := Lib.hid (And.intro hq1 (And.intro hq2 hq3))
            clear hT hg hq1 hq2 hq3
            go_wp2_with fail
            refine hKQ.out _ _ ⟨⟨_, hS.out.en.box pb (by simp)⟩, rfl⟩ (fun hHeld2 => ?_)
            (try simp only [Act.put, List.setIfInBounds_toArray, List.set_cons_zero, List.set_cons_succ])
            exact hfr.out _ _ _ _ (N4_8_18.out gK cK K q f bq wn HK HE hS)
          · go_simp
            go_wp2_with fail
            have hSn := hS.out.new2 (.int .i64 0) (.int .i64 0) 38
            obtain ⟨be, eb⟩ : ∃ x, wx.heap.size = x := ⟨_, rfl⟩
            obtain ⟨wn, ew⟩ : ∃ x, wx.alloc (.cells #[.int .i64 0, .int .i64 0] 38) = x := ⟨_, rfl⟩
            rw [ew, eb] at hSn
            simp only [ew, eb]
            replace hS := Lib.hid hSn
            clear hSn ew eb
            replace hS := Lib.hid (hS.out.pull 1 rfl rfl)
            refine hKQ.out _ _ ⟨⟨_, hS.out.en.box pb (by simp)⟩, rfl⟩ (fun hHeld2 => ?_)
            (try simp only [Act.put, List.setIfInBounds_toArray, List.set_cons_zero, List.set_cons_succ])
            exact hfr.out _ _ _ _ (N4_17_18.out gK cK K be bq wn HK hS))
        have N17_18 : Hid (∀ (be : Nat) (bq : Nat) (wx : World), Hid (St W p a0 cap xs [.two be (.int .i64 0) (.int .i64 0), .box bq (.int .i64 0) (.int .i64 0) (.int .i64 0) (.int .i64 0), .box pb (.int .i64 c) (.int .i64 h) (.int .i64 m) (.slice (some ⟨g, 0, none⟩) l l), .pix g l L] wx) → F 8 #[true, true, true, true, false, true, true, true, false, true, false, true, true, true, true, true, false, true, true, false, false, false, false] { tmps := #[Value.slice a0 xs.length cap, Value.agg #[Value.int IntKind.i64 ra, Value.int IntKind.i64 rb, Value.int IntKind.i64 rc, Value.int IntKind.i64 rd], undef, Value.pointer (some { block := tb, off := 0 }), u4, Value.pointer (some { block := p, off := 0 }), Value.int IntKind.i64 ↑k, Value.pointer (some { block := pb, off := 0 }), Value.int IntKind.i64 a, Value.int IntKind.i64 b, u10, .pointer (some ⟨be, 0, none⟩), u12, .pointer (some ⟨bq, 0, none⟩), u14, u15, u16, u17, Value.slice a0 xs.length cap, Value.pointer (some { block := p, off := 0 }), Value.int IntKind.i64 ↑k, Value.bool true, u22, u23, Value.pointer (some { block := p, off := 0 }), Value.agg #[Value.int IntKind.i64 c, Value.int IntKind.i64 h, Value.int IntKind.i64 m, Value.slice (some { block := g, off := 0 }) l l], Value.pointer (some { block := p, off := 0 }), Value.slice (some { block := w3.heap.size, off := 0 }) 5 5, Value.int IntKind.i64 a, Value.pointer (some { block := p, off := 0 }), Value.slice (some { block := w4.heap.size, off := 0 }) 3 3, Value.int IntKind.i64 b, Value.pointer (some { block := p, off := 0 }), Value.int IntKind.i64 a, Value.int IntKind.i64 b, Value.int IntKind.i64 ab, u36, Value.pointer (some { block := p, off := 0 }), Value.pointer (some { block := pb, off := 2 }), Value.int IntKind.i64 m, u40, Value.pointer (some { block := p, off := 0 }), u42, Value.pointer (some { block := p, off := 0 }), Value.pointer (some { block := pb, off := 0 }), Value.int IntKind.i64 c, Value.pointer (some { block := pb, off := 1 }), Value.int IntKind.i64 h, u48, u49, u50, u51, u52, u53, u54, u55, u56, u57, u58, u59, u60, u61, u62, u63, u64, u65, u66, u67, u68, u69, u70, u71, u72, u73, u74, u75, u76, u77, u78, u79, u80, u81, u82, u83, u84, u85, u86, u87, u88, u89, u90, u91, u92, u93, u94, u95, undef], defers := [] } wx) := Lib.hid (by
          intro be bq wx  hS
          refine hto.out _ _ _ _ ?_
          have hHeld : InW (B4 pb (.int .i64 c) (.int .i64 h) (.int .i64 m) (.slice (some ⟨g, 0, none⟩) l l)) wx := ⟨⟨_, hS.out.en.box pb (by simp)⟩, rfl⟩
          refine wpAnyH_ready (rs := [4]) (by kernel_rfl) (by simp) (AllReadyH.cons rfl (fun KQ hKQ => ?_) AllReadyH.nil)
          go_simp
          go_at_call 10
          refine (weights_some W p a0 cap xs ab _ hS.out.tape hS.out.below.size (by have := hab.out; omega)).mono ?_; intro e wn hpost
          obtain ⟨gK, cK, K, rfl, hK, hKs, hP, hT, hg⟩ := wt_row hpost hab.out.1
          replace hS := Lib.hid (hS.out.drawn hP hT hg)
          have HK := Lib.hid (And.intro hK hKs)
          clear hpost hP hT hg hK hKs
          go_wp2_with fail
          refine hKQ.out _ _ ⟨⟨_, hS.out.en.box pb (by simp)⟩, rfl⟩ (fun hHeld2 => ?_)
          (try simp only [Act.put, List.setIfInBounds_toArray, List.set_cons_zero, List.set_cons_succ])
          exact hfr.out _ _ _ _ (N4_17_18.out gK cK K be bq wn HK hS))
        have N4 : Hid (∀ (gK cK : Nat) (K : List Int) (wx : World), Hid ((K.length : Int) = ab ∧ Small K) → Hid (St W p a0 cap xs [.pix gK cK K, .box pb (.int .i64 c) (.int .i64 h) (.int .i64 m) (.slice (some ⟨g, 0, none⟩) l l), .pix g l L] wx) → F 9 #[true, true, true, true, true, true, true, true, false, true, false, true, true, true, true, true, false, false, false, false, false, false, false] { tmps := #[Value.slice a0 xs.length cap, Value.agg #[Value.int IntKind.i64 ra, Value.int IntKind.i64 rb, Value.int IntKind.i64 rc, Value.int IntKind.i64 rd], undef, Value.pointer (some { block := tb, off := 0 }), u4, Value.pointer (some { block := p, off := 0 }), Value.int IntKind.i64 ↑k, Value.pointer (some { block := pb, off := 0 }), Value.int IntKind.i64 a, Value.int IntKind.i64 b, u10, u11, u12, u13, u14, u15, u16, u17, Value.slice a0 xs.length cap, Value.pointer (some { block := p, off := 0 }), Value.int IntKind.i64 ↑k, Value.bool true, u22, u23, Value.pointer (some { block := p, off := 0 }), Value.agg #[Value.int IntKind.i64 c, Value.int IntKind.i64 h, Value.int IntKind.i64 m, Value.slice (some { block := g, off := 0 }) l l], Value.pointer (some { block := p, off := 0 }), Value.slice (some { block := w3.heap.size, off := 0 }) 5 5, Value.int IntKind.i64 a, Value.pointer (some { block := p, off := 0 }), Value.slice (some { block := w4.heap.size, off := 0 }) 3 3, Value.int IntKind.i64 b, Value.pointer (some { block := p, off := 0 }), Value.int IntKind.i64 a, Value.int IntKind.i64 b, Value.int IntKind.i64 ab, .slice (some ⟨gK, 0, none⟩) K.length cK, Value.pointer (some { block := p, off := 0 }), Value.pointer (some { block := pb, off := 2 }), Value.int IntKind.i64 m, u40, Value.pointer (some { block := p, off := 0 }), u42, Value.pointer (some { block := p, off := 0 }), Value.pointer (some { block := pb, off := 0 }), Value.int IntKind.i64 c, Value.pointer (some { block := pb, off := 1 }), Value.int IntKind.i64 h, u48, u49, u50, u51, u52, u53, u54, u55, u56, u57, u58, u59, u60, u61, u62, u63, u64, u65, u66, u67, u68, u69, u70, u71, u72, u73, u74, u75, u76, u77, u78, u79, u80, u81, u82, u83, u84, u85, u86, u87, u88, u89, u90, u91, u92, u93, u94, u95, undef], defers := [] } wx) := Lib.hid (by
          intro gK cK K wx HK hS
          refine hto.out _ _ _ _ ?_
          have hHeld : InW (B4 pb (.int .i64 c) (.int .i64 h) (.int .i64 m) (.slice (some ⟨g, 0, none⟩) l l)) wx := ⟨⟨_, hS.out.en.box pb (by simp)⟩, rfl⟩
          refine wpAnyH_ready (rs := [8, 17, 18]) (by kernel_rfl) (by simp) (AllReadyH.cons rfl (fun KQ hKQ => ?_) (AllReadyH.cons rfl (fun KQ hKQ => ?_) (AllReadyH.cons rfl (fun KQ hKQ => ?_) AllReadyH.nil)))
          · go_simp
            go_at_call 16
            refine (edge_tape W p a0 cap xs m _ hS.out.tape (by have := HM.out; omega) (by have := HM.out; omega)).mono ?_; rintro e wn ⟨q, f, rfl, hq1, hq2, hq3, hT, hg⟩
            replace hS := Lib.hid (hS.out.draw hT hg)
            have HE := Lib.hid (And.intro hq1 (And.intro hq2 hq3))
            clear hT hg hq1 hq2 hq3
            go_wp2_with fail
            refine hKQ.out _ _ ⟨⟨_, hS.out.en.box pb (by simp)⟩, rfl⟩ (fun hHeld2 => ?_)
            (try simp only [Act.put, List.setIfInBounds_toArray, List.set_cons_zero, List.set_cons_succ])
            exact hfr.out _ _ _ _ (N4_8.out gK cK K q f wn HK HE hS)
          · go_simp
            go_wp2_with fail
            have hSn := hS.out.new2 (.int .i64 0) (.int .i64 0) 38
            obtain ⟨be, eb⟩ : ∃ x, wx.heap.size = x := ⟨_, rfl⟩
            obtain ⟨wn, ew⟩ : ∃ x, wx.alloc (.cells #[.int .i64 0, .int .i64 0] 38) = x := ⟨_, rfl⟩
            rw [ew, eb] at hSn
            simp only [ew, eb]
            replace hS := Lib.hid hSn
            clear hSn ew eb
            replace hS := Lib.hid (hS.out.pull 1 rfl rfl)
            refine hKQ.out _ _ ⟨⟨_, hS.out.en.box pb (by simp)⟩, rfl⟩ (fun hHeld2 => ?_)
            (try simp only [Act.put, List.setIfInBounds_toArray, List.set_cons_zero, List.set_cons_succ])
            exact hfr.out _ _ _ _ (N4_17.out gK cK K be wn HK hS)
          · go_simp
            go_wp2_with fail
            have hSn := hS.out.new (.int .i64 0) (.int .i64 0) (.int .i64 0) (.int .i64 0) 33
            obtain ⟨bq, eb⟩ : ∃ x, wx.heap.size = x := ⟨_, rfl⟩
            obtain ⟨wn, ew⟩ : ∃ x, wx.alloc (.cells #[.int .i64 0, .int .i64 0, .int .i64 0, .int .i64 0] 33) = x := ⟨_, rfl⟩
            rw [ew, eb] at hSn
            simp only [ew, eb]
            replace hS := Lib.hid hSn
            clear hSn ew eb
            replace hS := Lib.hid (hS.out.pull 1 rfl rfl)
            refine hKQ.out _ _ ⟨⟨_, hS.out.en.box pb (by simp)⟩, rfl⟩ (fun hHeld2 => ?_)
            (try simp only [Act.put, List.setIfInBounds_toArray, List.set_cons_zero, List.set_cons_succ])
            exact hfr.out _ _ _ _ (N4_18.out gK cK K bq wn HK hS))
        have N17 : Hid (∀ (be : Nat) (wx : World), Hid (St W p a0 cap xs [.two be (.int .i64 0) (.int .i64 0), .box pb (.int .i64 c) (.int .i64 h) (.int .i64 m) (.slice (some ⟨g, 0, none⟩) l l), .pix g l L] wx) → F 9 #[true, true, true, true, false, true, true, true, false, true, false, true, true, true, true, true, false, true, false, false, false, false, false] { tmps := #[Value.slice a0 xs.length cap, Value.agg #[Value.int IntKind.i64 ra, Value.int IntKind.i64 rb, Value.int IntKind.i64 rc, Value.int IntKind.i64 rd], undef, Value.pointer (some { block := tb, off := 0 }), u4, Value.pointer (some { block := p, off := 0 }), Value.int IntKind.i64 ↑k, Value.pointer (some { block := pb, off := 0 }), Value.int IntKind.i64 a, Value.int IntKind.i64 b, u10, .pointer (some ⟨be, 0, none⟩), u12, u13, u14, u15, u16, u17, Value.slice a0 xs.length cap, Value.pointer (some { block := p, off := 0 }), Value.int IntKind.i64 ↑k, Value.bool true, u22, u23, Value.pointer (some { block := p, off := 0 }), Value.agg #[Value.int IntKind.i64 c, Value.int IntKind.i64 h, Value.int IntKind.i64 m, Value.slice (some { block := g, off := 0 }) l l], Value.pointer (some { block := p, off := 0 }), Value.slice (some { block := w3.heap.size, off := 0 }) 5 5, Value.int IntKind.i64 a, Value.pointer (some { block := p, off := 0 }), Value.slice (some { block := w4.heap.size, off := 0 }) 3 3, Value.int IntKind.i64 b, Value.pointer (some { block := p, off := 0 }), Value.int IntKind.i64 a, Value.int IntKind.i64 b, Value.int IntKind.i64 ab, u36, Value.pointer (some { block := p, off := 0 }), Value.pointer (some { block := pb, off := 2 }), Value.int IntKind.i64 m, u40, Value.pointer (some { block := p, off := 0 }), u42, Value.pointer (some { block := p, off := 0 }), Value.pointer (some { block := pb, off := 0 }), Value.int IntKind.i64 c, Value.pointer (some { block := pb, off := 1 }), Value.int IntKind.i64 h, u48, u49, u50, u51, u52, u53, u54, u55, u56, u57, u58, u59, u60, u61, u62, u63, u64, u65, u66, u67, u68, u69, u70, u71, u72, u73, u74, u75, u76, u77, u78, u79, u80, u81, u82, u83, u84, u85, u86, u87, u88, u89, u90, u91, u92, u93, u94, u95, undef], defers := [] } wx) := Lib.hid (by
          intro be wx  hS
          refine hto.out _ _ _ _ ?_
          have hHeld : InW (B4 pb (.int .i64 c) (.int .i64 h) (.int .i64 m) (.slice (some ⟨g, 0, none⟩) l l)) wx := ⟨⟨_, hS.out.en.box pb (by simp)⟩, rfl⟩
          refine wpAnyH_ready (rs := [4, 18]) (by kernel_rfl) (by simp) (AllReadyH.cons rfl (fun KQ hKQ => ?_) (AllReadyH.cons rfl (fun KQ hKQ => ?_) AllReadyH.nil))
          · go_simp
            go_at_call 10
            refine (weights_some W p a0 cap xs ab _ hS.out.tape hS.out.below.size (by have := hab.out; omega)).mono ?_; intro e wn hpost
            obtain ⟨gK, cK, K, rfl, hK, hKs, hP, hT, hg⟩ := wt_row hpost hab.out.1
            replace hS := Lib.hid (hS.out.drawn hP hT hg)
            have HK := Lib.hid (And.intro hK hKs)
            clear hpost hP hT hg hK hKs
            go_wp2_with fail
            refine hKQ.out _ _ ⟨⟨_, hS.out.en.box pb (by simp)⟩, rfl⟩ (fun hHeld2 => ?_)
            (try simp only [Act.put, List.setIfInBounds_toArray, List.set_cons_zero, List.set_cons_succ])
            exact hfr.out _ _ _ _ (N4_17.out gK cK K be wn HK hS)
          · go_simp
            go_wp2_with fail
            have hSn := hS.out.new (.int .i64 0) (.int .i64 0) (.int .i64 0) (.int .i64 0) 33
            obtain ⟨bq, eb⟩ : ∃ x, wx.heap.size = x := ⟨_, rfl⟩
            obtain ⟨wn, ew⟩ : ∃ x, wx.alloc (.cells #[.int .i64 0, .int .i64 0, .int .i64 0, .int .i64 0] 33) = x := ⟨_, rfl⟩
            rw [ew, eb] at hSn
            simp only [ew, eb]
            replace hS := Lib.hid hSn
            clear hSn ew eb
            replace hS := Lib.hid (hS.out.pull 1 rfl rfl)
            refine hKQ.out _ _ ⟨⟨_, hS.out.en.box pb (by simp)⟩, rfl⟩ (fun hHeld2 => ?_)
            (try simp only [Act.put, List.setIfInBounds_toArray, List.set_cons_zero, List.set_cons_succ])
            exact hfr.out _ _ _ _ (N17_18.out be bq wn  hS))
        have N18 : Hid (∀ (bq : Nat) (wx : World), Hid (St W p a0 cap xs [.box bq (.int .i64 0) (.int .i64 0) (.int .i64 0) (.int .i64 0), .box pb (.int .i64 c) (.int .i64 h) (.int .i64 m) (.slice (some ⟨g, 0, none⟩) l l), .pix g l L] wx) → F 9 #[true, true, true, true, false, true, true, true, false, true, false, true, true, true, true, true, false, false, true, false, false, false, false] { tmps := #[Value.slice a0 xs.length cap, Value.agg #[Value.int IntKind.i64 ra, Value.int IntKind.i64 rb, Value.int IntKind.i64 rc, Value.int IntKind.i64 rd], undef, Value.pointer (some { block := tb, off := 0 }), u4, Value.pointer (some { block := p, off := 0 }), Value.int IntKind.i64 ↑k, Value.pointer (some { block := pb, off := 0 }), Value.int IntKind.i64 a, Value.int IntKind.i64 b, u10, u11, u12, .pointer (some ⟨bq, 0, none⟩), u14, u15, u16, u17, Value.slice a0 xs.length cap, Value.pointer (some { block := p, off := 0 }), Value.int IntKind.i64 ↑k, Value.bool true, u22, u23, Value.pointer (some { block := p, off := 0 }), Value.agg #[Value.int IntKind.i64 c, Value.int IntKind.i64 h, Value.int IntKind.i64 m, Value.slice (some { block := g, off := 0 }) l l], Value.pointer (some { block := p, off := 0 }), Value.slice (some { block := w3.heap.size, off := 0 }) 5 5, Value.int IntKind.i64 a, Value.pointer (some { block := p, off := 0 }), Value.slice (some { block := w4.heap.size, off := 0 }) 3 3, Value.int IntKind.i64 b, Value.pointer (some { block := p, off := 0 }), Value.int IntKind.i64 a, Value.int IntKind.i64 b, Value.int IntKind.i64 ab, u36, Value.pointer (some { block := p, off := 0 }), Value.pointer (some { block := pb, off := 2 }), Value.int IntKind.i64 m, u40, Value.pointer (some { block := p, off := 0 }), u42, Value.pointer (some { block := p, off := 0 }), Value.pointer (some { block := pb, off := 0 }), Value.int IntKind.i64 c, Value.pointer (some { block := pb, off := 1 }), Value.int IntKind.i64 h, u48, u49, u50, u51, u52, u53, u54, u55, u56, u57, u58, u59, u60, u61, u62, u63, u64, u65, u66, u67, u68, u69, u70, u71, u72, u73, u74, u75, u76, u77, u78, u79, u80, u81, u82, u83, u84, u85, u86, u87, u88, u89, u90, u91, u92, u93, u94, u95, undef], defers := [] } wx) := Lib.hid (by
          intro bq wx  hS
          refine hto.out _ _ _ _ ?_
          have hHeld : InW (B4 pb (.int .i64 c) (.int .i64 h) (.int .i64 m) (.slice (some ⟨g, 0, none⟩) l l)) wx := ⟨⟨_, hS.out.en.box pb (by simp)⟩, rfl⟩
          refine wpAnyH_ready (rs := [4, 17]) (by kernel_rfl) (by simp) (AllReadyH.cons rfl (fun KQ hKQ => ?_) (AllReadyH.cons rfl (fun KQ hKQ => ?_) AllReadyH.nil))
          · go_simp
            go_at_call 10
            refine (weights_some W p a0 cap xs ab _ hS.out.tape hS.out.below.size (by have := hab.out; omega)).mono ?_; intro e wn hpost
            obtain ⟨gK, cK, K, rfl, hK, hKs, hP, hT, hg⟩ := wt_row hpost hab.out.1
            replace hS := Lib.hid (hS.out.drawn hP hT hg)
            have HK := Lib.hid (And.intro hK hKs)
            clear hpost hP hT hg hK hKs
            go_wp2_with fail
            refine hKQ.out _ _ ⟨⟨_, hS.out.en.box pb (by simp)⟩, rfl⟩ (fun hHeld2 => ?_)
            (try simp only [Act.put, List.setIfInBounds_toArray, List.set_cons_zero, List.set_cons_succ])
            exact hfr.out _ _ _ _ (N4_18.out gK cK K bq wn HK hS)
          · go_simp
            go_wp2_with fail
            have hSn := hS.out.new2 (.int .i64 0) (.int .i64 0) 38
            obtain ⟨be, eb⟩ : ∃ x, wx.heap.size = x := ⟨_, rfl⟩
            obtain ⟨wn, ew⟩ : ∃ x, wx.alloc (.cells #[.int .i64 0, .int .i64 0] 38) = x := ⟨_, rfl⟩
            rw [ew, eb] at hSn
            simp only [ew, eb]
            replace hS := Lib.hid hSn
            clear hSn ew eb
            refine hKQ.out _ _ ⟨⟨_, hS.out.en.box pb (by simp)⟩, rfl⟩ (fun hHeld2 => ?_)
            (try simp only [Act.put, List.setIfInBounds_toArray, List.set_cons_zero, List.set_cons_succ])
            exact hfr.out _ _ _ _ (N17_18.out be bq wn  hS))
        have N0 : Hid (∀ (wx : World), Hid (St W p a0 cap xs [.box pb (.int .i64 c) (.int .i64 h) (.int .i64 m) (.slice (some ⟨g, 0, none⟩) l l), .pix g l L] wx) → F 10 #[true, true, true, true, false, true, true, true, false, true, false, true, true, true, true, true, false, false, false, false, false, false, false] { tmps := #[Value.slice a0 xs.length cap, Value.agg #[Value.int IntKind.i64 ra, Value.int IntKind.i64 rb, Value.int IntKind.i64 rc, Value.int IntKind.i64 rd], undef, Value.pointer (some { block := tb, off := 0 }), u4, Value.pointer (some { block := p, off := 0 }), Value.int IntKind.i64 ↑k, Value.pointer (some { block := pb, off := 0 }), Value.int IntKind.i64 a, Value.int IntKind.i64 b, u10, u11, u12, u13, u14, u15, u16, u17, Value.slice a0 xs.length cap, Value.pointer (some { block := p, off := 0 }), Value.int IntKind.i64 ↑k, Value.bool true, u22, u23, Value.pointer (some { block := p, off := 0 }), Value.agg #[Value.int IntKind.i64 c, Value.int IntKind.i64 h, Value.int IntKind.i64 m, Value.slice (some { block := g, off := 0 }) l l], Value.pointer (some { block := p, off := 0 }), Value.slice (some { block := w3.heap.size, off := 0 }) 5 5, Value.int IntKind.i64 a, Value.pointer (some { block := p, off := 0 }), Value.slice (some { block := w4.heap.size, off := 0 }) 3 3, Value.int IntKind.i64 b, Value.pointer (some { block := p, off := 0 }), Value.int IntKind.i64 a, Value.int IntKind.i64 b, Value.int IntKind.i64 ab, u36, Value.pointer (some { block := p, off := 0 }), Value.pointer (some { block := pb, off := 2 }), Value.int IntKind.i64 m, u40, Value.pointer (some { block := p, off := 0 }), u42, Value.pointer (some { block := p, off := 0 }), Value.pointer (some { block := pb, off := 0 }), Value.int IntKind.i64 c, Value.pointer (some { block := pb, off := 1 }), Value.int IntKind.i64 h, u48, u49, u50, u51, u52, u53, u54, u55, u56, u57, u58, u59, u60, u61, u62, u63, u64, u65, u66, u67, u68, u69, u70, u71, u72, u73, u74, u75, u76, u77, u78, u79, u80, u81, u82, u83, u84, u85, u86, u87, u88, u89, u90, u91, u92, u93, u94, u95, undef], defers := [] } wx) := Lib.hid (by
          intro  wx  hS
          refine hto.out _ _ _ _ ?_
          have hHeld : InW (B4 pb (.int .i64 c) (.int .i64 h) (.int .i64 m) (.slice (some ⟨g, 0, none⟩) l l)) wx := ⟨⟨_, hS.out.en.box pb (by simp)⟩, rfl⟩
          refine wpAnyH_ready (rs := [4, 17, 18]) (by kernel_rfl) (by simp) (AllReadyH.cons rfl (fun KQ hKQ => ?_) (AllReadyH.cons rfl (fun KQ hKQ => ?_) (AllReadyH.cons rfl (fun KQ hKQ => ?_) AllReadyH.nil)))
          · go_simp
            go_at_call 10
            refine (weights_some W p a0 cap xs ab _ hS.out.tape hS.out.below.size (by have := hab.out; omega)).mono ?_; intro e wn hpost
            obtain ⟨gK, cK, K, rfl, hK, hKs, hP, hT, hg⟩ := wt_row hpost hab.out.1
            replace hS := Lib.hid (hS.out.drawn hP hT hg)
            have HK := Lib.hid (And.intro hK hKs)
            clear hpost hP hT hg hK hKs
            go_wp2_with fail
            refine hKQ.out _ _ ⟨⟨_, hS.out.en.box pb (by simp)⟩, rfl⟩ (fun hHeld2 => ?_)
            (try simp only [Act.put, List.setIfInBounds_toArray, List.set_cons_zero, List.set_cons_succ])
            exact hfr.out _ _ _ _ (N4.out gK cK K wn HK hS)
          · go_simp
            go_wp2_with fail
            have hSn := hS.out.new2 (.int .i64 0) (.int .i64 0) 38
            obtain ⟨be, eb⟩ : ∃ x, wx.heap.size = x := ⟨_, rfl⟩
            obtain ⟨wn, ew⟩ : ∃ x, wx.alloc (.cells #[.int .i64 0, .int .i64 0] 38) = x := ⟨_, rfl⟩
            rw [ew, eb] at hSn
            simp only [ew, eb]
            replace hS := Lib.hid hSn
            clear hSn ew eb
            refine hKQ.out _ _ ⟨⟨_, hS.out.en.box pb (by simp)⟩, rfl⟩ (fun hHeld2 => ?_)
            (try simp only [Act.put, List.setIfInBounds_toArray, List.set_cons_zero, List.set_cons_succ])
            exact hfr.out _ _ _ _ (N17.out be wn  hS)
          · go_simp
            go_wp2_with fail
            have hSn := hS.out.new (.int .i64 0) (.int .i64 0) (.int .i64 0) (.int .i64 0) 33
            obtain ⟨bq, eb⟩ : ∃ x, wx.heap.size = x := ⟨_, rfl⟩
            obtain ⟨wn, ew⟩ : ∃ x, wx.alloc (.cells #[.int .i64 0, .int .i64 0, .int .i64 0, .int .i64 0] 33) = x := ⟨_, rfl⟩
            rw [ew, eb] at hSn
            simp only [ew, eb]
            replace hS := Lib.hid hSn
            clear hSn ew eb
            refine hKQ.out _ _ ⟨⟨_, hS.out.en.box pb (by simp)⟩, rfl⟩ (fun hHeld2 => ?_)
            (try simp only [Act.put, List.setIfInBounds_toArray, List.set_cons_zero, List.set_cons_succ])
            exact hfr.out _ _ _ _ (N18.out bq wn  hS))
        exact N0.out wd hS
      case rest =>
        clear hS wab
        obtain ⟨be, bq, gK, cK, K, q, f, s, x0, y0, x1, y1, rfl, rfl, rfl, rfl, HK, HE, HS4, HX, hS⟩ := hcut
        have hED := Lib.hid (show edgeB q f m = true by
          have h1 := HE.out
          have h3 := HM.out
          have h2 : m.tdiv 2 = m / 2 := Int.tdiv_eq_ediv_of_nonneg (by omega)
          rw [h2] at h1
          exact edgeB_t.2 (by omega))
        obtain ⟨kl, ekl⟩ : ∃ x, K.length = x := ⟨_, rfl⟩
        have EKL := Lib.hid ekl
        have hkl := Lib.hid (show kl ≤ 27 by have h1 := HK.out.1; have h2 := hab.out; omega)
        rw [ekl]
        clear ekl HX HE HS4
        go_upto_if 50 with fail
        go_cut [] (fun wx => ∃ x0 y0 x1 y1 : Int, Hid (St W p a0 cap xs [.two be (.int .i64 q) (.int .i64 f), .box bq (.int .i64 x0) (.int .i64 y0) (.int .i64 x1) (.int .i64 y1), .pix gK cK K, .box pb (.int .i64 c) (.int .i64 h) (.int .i64 m) (.slice (some ⟨g, 0, none⟩) l l), .pix g l L] wx))
        case first =>
          by_cases h2 : k = 2
          · subst h2
            have hqw := hq.out
            haveI : Nonempty (In (B4 tb (.int .i64 ra) (.int .i64 rb) (.int .i64 rc) (.int .i64 rd))) := ⟨⟨_, hqw⟩⟩
            have c0 : ∀ s : In (B4 tb (.int .i64 ra) (.int .i64 rb) (.int .i64 rc) (.int .i64 rd)), s.w.cell? ⟨tb, 0, none⟩ = some (.int .i64 ra) := fun s => s.h.1
            have c1 : ∀ s : In (B4 tb (.int .i64 ra) (.int .i64 rb) (.int .i64 rc) (.int .i64 rd)), s.w.cell? ⟨tb, 1, none⟩ = some (.int .i64 rb) := fun s => s.h.2.1
            have c2 : ∀ s : In (B4 tb (.int .i64 ra) (.int .i64 rb) (.int .i64 rc) (.int .i64 rd)), s.w.cell? ⟨tb, 2, none⟩ = some (.int .i64 rc) := fun s => s.h.2.2.1
            have c3 : ∀ s : In (B4 tb (.int .i64 ra) (.int .i64 rb) (.int .i64 rc) (.int .i64 rd)), s.w.cell? ⟨tb, 3, none⟩ = some (.int .i64 rd) := fun s => s.h.2.2.2
            go_upto_region 9 with fail
            refine wp_region_noPanic ?_
            refine wp_region_held_drew (S := InW (B4 tb (.int .i64 ra) (.int .i64 rb) (.int .i64 rc) (.int .i64 rd))) (by kernel_rfl) ⟨⟨World.drew _, b4_below hqw hS.out.drewn.below⟩, rfl⟩ (fun hHeld => ?_)
            replace hS := Lib.hid hS.out.drewn
            obtain ⟨wd, ewd⟩ : ∃ wd, World.drew wc = wd := ⟨_, rfl⟩
            rw [ewd] at hS hHeld
            simp only [ewd]
            clear ewd
            refine held_run 2 0 7 rfl (by decide) (by kernel_rfl) (by kernel_rfl) (by kernel_rfl) (fun _ _ _ _ _ h => h) hHeld ?_
            simp only [List.take_succ_cons, List.take_zero, List.drop_succ_cons, List.drop_zero]
            repeat (go_big_quiet_step (fail))
            refine wpQuiet_nil ?_
            (try simp only [Act.put, List.setIfInBounds_toArray, List.set_cons_zero, List.set_cons_succ])
            refine held_run 1 4 6 rfl (by decide) (by kernel_rfl) (by kernel_rfl) (by kernel_rfl) (fun _ _ _ _ _ h => h) hHeld ?_
            simp only [List.take_succ_cons, List.take_zero, List.drop_succ_cons, List.drop_zero]
            repeat (go_big_quiet_step (fail))
            refine wpQuiet_nil ?_
            (try simp only [Act.put, List.setIfInBounds_toArray, List.set_cons_zero, List.set_cons_succ])
            refine wpAnyH_ready (rs := [2]) (by kernel_rfl) (by simp) (AllReadyH.cons rfl (fun KQ hKQ => ?_) AllReadyH.nil)
            go_simp
            go_at_call 18
            refine (rect_some W p a0 cap xs _ hS.out.tape).mono ?_; rintro e w53 ⟨r0, r1, r2, r3, rfl, _, hT, hg⟩
            replace hS := Lib.hid (hS.out.draw hT hg)
            clear hT hg
            go_wp2_with fail
            refine hKQ.out _ _ ⟨⟨_, b4_below hqw hS.out.below⟩, rfl⟩ (fun hHeld2 => ?_)
            clear hKQ KQ hHeld
            have hHeld := hHeld2
            clear hHeld2
            (try simp only [Act.put, List.setIfInBounds_toArray, List.set_cons_zero, List.set_cons_succ])
            refine wpAnyH_ready (rs := [3, 5]) (by kernel_rfl) (by simp) (AllReadyH.cons rfl (fun KQ hKQ => ?_) (AllReadyH.cons rfl (fun KQ hKQ => ?_) AllReadyH.nil))
            · go_simp
              (try go_wp2_with fail)
              have h8 := new8 w53 ra rb rc rd r0 r1 r2 r3 33
              have hSn := hS.out.call (balloc (bref _) (.cells #[.int .i64 ra, .int .i64 rb, .int .i64 rc, .int .i64 rd, .int .i64 r0, .int .i64 r1, .int .i64 r2, .int .i64 r3] 33))
              have hsp := hS.out.tape.lt.1
              obtain ⟨sb, eb⟩ : ∃ x, w53.heap.size = x := ⟨_, rfl⟩
              obtain ⟨wb, ew⟩ : ∃ x, w53.alloc (.cells #[.int .i64 ra, .int .i64 rb, .int .i64 rc, .int .i64 rd, .int .i64 r0, .int .i64 r1, .int .i64 r2, .int .i64 r3] 33) = x := ⟨_, rfl⟩
              rw [ew] at hSn
              rw [ew, eb] at h8
              rw [eb] at hsp
              simp only [ew, eb]
              replace hS := Lib.hid hSn
              have H8 := Lib.hid h8
              have HSP := Lib.hid (show ¬ sb = p by omega)
              clear hSn ew eb h8 hsp
              refine hKQ.out _ _ ⟨⟨_, b4_below hqw hS.out.below⟩, rfl⟩ (fun hHeld2 => ?_)
              clear hKQ KQ hHeld
              have hHeld := hHeld2
              clear hHeld2
              (try simp only [Act.put, List.setIfInBounds_toArray, List.set_cons_zero, List.set_cons_succ])
              refine wpAnyH_ready (rs := [5]) (by kernel_rfl) (by simp) (AllReadyH.cons rfl (fun KQ hKQ => ?_) AllReadyH.nil)
              go_simp
              go_at_call 9
              refine (next_some W p a0 cap xs _ _ hS.out.tape (by omega) (by omega)).mono ?_; rintro e w56b ⟨mm, rfl, hm2, hT, hg⟩
              obtain ⟨mi, emi⟩ : ∃ z : Nat, mm = z := ⟨mm.toNat, by omega⟩
              subst emi
              have hmi : mi < 2 := by omega
              have hmI : (mi : Int) < 2 := by omega
              clear hm2
              replace hS := Lib.hid (hS.out.draw hT hg)
              replace H8 := Lib.hid (b8_grown H8.out hg HSP.out)
              clear hT hg
              go_wp2_with fail
              refine hKQ.out _ _ ⟨⟨_, b4_below hqw hS.out.below⟩, rfl⟩ (fun hHeld2 => ?_)
              clear hKQ KQ hHeld
              have hHeld := hHeld2
              clear hHeld2
              (try simp only [Act.put, List.setIfInBounds_toArray, List.set_cons_zero, List.set_cons_succ])
              refine wpAnyH_ready (rs := [6]) (by kernel_rfl) (by simp) (AllReadyH.cons rfl (fun KQ hKQ => ?_) AllReadyH.nil)
              go_simp
              (try go_wp2_with fail)
              refine hKQ.out _ _ ⟨⟨_, b4_below hqw hS.out.below⟩, rfl⟩ (fun hHeld2 => ?_)
              clear hKQ KQ hHeld
              have hHeld := hHeld2
              clear hHeld2
              (try simp only [Act.put, List.setIfInBounds_toArray, List.set_cons_zero, List.set_cons_succ])
              refine wpAnyH_ready (rs := [7]) (by kernel_rfl) (by simp) (AllReadyH.cons rfl (fun KQ hKQ => ?_) AllReadyH.nil)
              obtain ⟨z0, z1, z2, z3, k0, k1, k2, k3⟩ := b8_at H8.out hmi
              go_simp
              (try go_wp2_with fail)
              clear k0 k1 k2 k3
              refine hKQ.out _ _ ⟨⟨_, b4_below hqw hS.out.below⟩, rfl⟩ (fun hHeld2 => ?_)
              clear hKQ KQ hHeld
              have hHeld := hHeld2
              clear hHeld2
              (try simp only [Act.put, List.setIfInBounds_toArray, List.set_cons_zero, List.set_cons_succ])
              refine wpAnyH_ready (rs := [8]) (by kernel_rfl) (by simp) (AllReadyH.cons rfl (fun KQ hKQ => ?_) AllReadyH.nil)
              replace hS := Lib.hid (hS.out.pull 1 rfl rfl)
              obtain ⟨⟨zz0, zz1, zz2, zz3⟩, zf0, zf1, zf2, zf3⟩ := (show Box4 _ _ _ _ _ _ from hS.out.en.ok _ (List.mem_cons_self ..))
              have hSn := hS.out.setbox (.int .i64 z0) (.int .i64 z1) (.int .i64 z2) (.int .i64 z3)
              unfold put4 at hSn
              go_simp
              (try go_wp2_with fail)
              obtain ⟨wo22, ew⟩ : ∃ x, ((((w56b.setCell ⟨bq, 0, none⟩ (.int .i64 z0)).setCell ⟨bq, 1, none⟩ (.int .i64 z1)).setCell ⟨bq, 2, none⟩ (.int .i64 z2)).setCell ⟨bq, 3, none⟩ (.int .i64 z3)) = x := ⟨_, rfl⟩
              rw [ew] at hSn
              simp only [ew]
              replace hS := Lib.hid hSn
              clear hSn ew zz0 zz1 zz2 zz3 zf0 zf1 zf2 zf3
              refine hKQ.out _ _ ⟨⟨_, b4_below hqw hS.out.below⟩, rfl⟩ (fun hHeld2 => ?_)
              clear hKQ KQ hHeld
              have hHeld := hHeld2
              clear hHeld2
              (try simp only [Act.put, List.setIfInBounds_toArray, List.set_cons_zero, List.set_cons_succ])
              refine wpAnyH_done (by kernel_rfl) ?_ _
              refine NoPanic.normal ?_
              replace hS := Lib.hid (hS.out.pull 2 rfl rfl)
              replace hS := Lib.hid (hS.out.pull 1 rfl rfl)
              replace hS := Lib.hid (hS.out.pull 2 rfl rfl)
              go_wp2_with fail
              go_meet
              exact ⟨_, _, _, _, hS⟩
            · go_simp
              go_at_call 9
              refine (next_some W p a0 cap xs _ _ hS.out.tape (by omega) (by omega)).mono ?_; rintro e w56 ⟨mm, rfl, hm2, hT, hg⟩
              obtain ⟨mi, emi⟩ : ∃ z : Nat, mm = z := ⟨mm.toNat, by omega⟩
              subst emi
              have hmi : mi < 2 := by omega
              have hmI : (mi : Int) < 2 := by omega
              clear hm2
              replace hS := Lib.hid (hS.out.draw hT hg)
              clear hT hg
              go_wp2_with fail
              refine hKQ.out _ _ ⟨⟨_, b4_below hqw hS.out.below⟩, rfl⟩ (fun hHeld2 => ?_)
              clear hKQ KQ hHeld
              have hHeld := hHeld2
              clear hHeld2
              (try simp only [Act.put, List.setIfInBounds_toArray, List.set_cons_zero, List.set_cons_succ])
              refine wpAnyH_ready (rs := [3]) (by kernel_rfl) (by simp) (AllReadyH.cons rfl (fun KQ hKQ => ?_) AllReadyH.nil)
              go_simp
              (try go_wp2_with fail)
              have h8 := new8 w56 ra rb rc rd r0 r1 r2 r3 33
              have hSn := hS.out.call (balloc (bref _) (.cells #[.int .i64 ra, .int .i64 rb, .int .i64 rc, .int .i64 rd, .int .i64 r0, .int .i64 r1, .int .i64 r2, .int .i64 r3] 33))
              have hsp := hS.out.tape.lt.1
              obtain ⟨sb, eb⟩ : ∃ x, w56.heap.size = x := ⟨_, rfl⟩
              obtain ⟨wb2, ew⟩ : ∃ x, w56.alloc (.cells #[.int .i64 ra, .int .i64 rb, .int .i64 rc, .int .i64 rd, .int .i64 r0, .int .i64 r1, .int .i64 r2, .int .i64 r3] 33) = x := ⟨_, rfl⟩
              rw [ew] at hSn
              rw [ew, eb] at h8
              rw [eb] at hsp
              simp only [ew, eb]
              replace hS := Lib.hid hSn
              have H8 := Lib.hid h8
              have HSP := Lib.hid (show ¬ sb = p by omega)
              clear hSn ew eb h8 hsp
              refine hKQ.out _ _ ⟨⟨_, b4_below hqw hS.out.below⟩, rfl⟩ (fun hHeld2 => ?_)
              clear hKQ KQ hHeld
              have hHeld := hHeld2
              clear hHeld2
              (try simp only [Act.put, List.setIfInBounds_toArray, List.set_cons_zero, List.set_cons_succ])
              refine wpAnyH_ready (rs := [6]) (by kernel_rfl) (by simp) (AllReadyH.cons rfl (fun KQ hKQ => ?_) AllReadyH.nil)
              go_simp
              (try go_wp2_with fail)
              refine hKQ.out _ _ ⟨⟨_, b4_below hqw hS.out.below⟩, rfl⟩ (fun hHeld2 => ?_)
              clear hKQ KQ hHeld
              have hHeld := hHeld2
              clear hHeld2
              (try simp only [Act.put, List.setIfInBounds_toArray, List.set_cons_zero, List.set_cons_succ])
              refine wpAnyH_ready (rs := [7]) (by kernel_rfl) (by simp) (AllReadyH.cons rfl (fun KQ hKQ => ?_) AllReadyH.nil)
              obtain ⟨z0, z1, z2, z3, k0, k1, k2, k3⟩ := b8_at H8.out hmi
              go_simp
              (try go_wp2_with fail)
              clear k0 k1 k2 k3
              refine hKQ.out _ _ ⟨⟨_, b4_below hqw hS.out.below⟩, rfl⟩ (fun hHeld2 => ?_)
              clear hKQ KQ hHeld
              have hHeld := hHeld2
              clear hHeld2
              (try simp only [Act.put, List.setIfInBounds_toArray, List.set_cons_zero, List.set_cons_succ])
              refine wpAnyH_ready (rs := [8]) (by kernel_rfl) (by simp) (AllReadyH.cons rfl (fun KQ hKQ => ?_) AllReadyH.nil)
              replace hS := Lib.hid (hS.out.pull 1 rfl rfl)
              obtain ⟨⟨zz0, zz1, zz2, zz3⟩, zf0, zf1, zf2, zf3⟩ := (show Box4 _ _ _ _ _ _ from hS.out.en.ok _ (List.mem_cons_self ..))
              have hSn := hS.out.setbox (.int .i64 z0) (.int .i64 z1) (.int .i64 z2) (.int .i64 z3)
              unfold put4 at hSn
              go_simp
              (try go_wp2_with fail)
              obtain ⟨wo22, ew⟩ : ∃ x, ((((wb2.setCell ⟨bq, 0, none⟩ (.int .i64 z0)).setCell ⟨bq, 1, none⟩ (.int .i64 z1)).setCell ⟨bq, 2, none⟩ (.int .i64 z2)).setCell ⟨bq, 3, none⟩ (.int .i64 z3)) = x := ⟨_, rfl⟩
              rw [ew] at hSn
              simp only [ew]
              replace hS := Lib.hid hSn
              clear hSn ew zz0 zz1 zz2 zz3 zf0 zf1 zf2 zf3
              refine hKQ.out _ _ ⟨⟨_, b4_below hqw hS.out.below⟩, rfl⟩ (fun hHeld2 => ?_)
              clear hKQ KQ hHeld
              have hHeld := hHeld2
              clear hHeld2
              (try simp only [Act.put, List.setIfInBounds_toArray, List.set_cons_zero, List.set_cons_succ])
              refine wpAnyH_done (by kernel_rfl) ?_ _
              refine NoPanic.normal ?_
              replace hS := Lib.hid (hS.out.pull 2 rfl rfl)
              replace hS := Lib.hid (hS.out.pull 1 rfl rfl)
              replace hS := Lib.hid (hS.out.pull 2 rfl rfl)
              go_wp2_with fail
              go_meet
              exact ⟨_, _, _, _, hS⟩
          · have h2' : ((k : Int) == 2) = false := beq_false_of_ne (by omega)
            go_wp2_with fail
            go_meet
            exact ⟨x0, y0, x1, y1, hS⟩
        case rest =>
          clear hS x0 y0 x1 y1
          obtain ⟨x0, y0, x1, y1, hS⟩ := hcut
          go_wp2_with fail
          refine (next_some W p a0 cap xs _ _ hS.out.tape (by omega) (by omega)).mono ?_; rintro e w6 ⟨d, rfl, ⟨d0, d1⟩, hT, hg⟩
          replace hS := Lib.hid (hS.out.draw hT hg)
          clear hT hg
          go_upto_if 61 with fail
          go_cut [] (fun wx => ∃ (X Y Z : Int) (J : List Int) (sl : Option Addr) (jl jc : Nat), Hid (SliceIs wx sl J ∧ J.length = jl ∧ jl ≤ 4097) ∧ Hid (St W p a0 cap xs [.box pb (.int .i64 X) (.int .i64 Y) (.int .i64 Z) (.slice sl jl jc), .two be (.int .i64 q) (.int .i64 f), .box bq (.int .i64 x0) (.int .i64 y0) (.int .i64 x1) (.int .i64 y1), .pix gK cK K, .pix g l L] wx))
          case first =>
            have hSp := hS.out.pull 3 rfl rfl
            have hLl := plane_len hv'.out
            rw [EL.out] at hLl
            have hL1 := plane_pos hv'.out
            by_cases h9 : d = 9
            · subst h9
              obtain ⟨⟨p0, p1, p2, p3⟩, f0, f1, f2, f3⟩ := (show Box4 _ _ _ _ _ _ from hSp.en.ok _ (List.mem_cons_self ..))
              have hsp := spoil_any W p a0 cap xs c h m L (some ⟨g, 0, none⟩) l w6 hS.out.tape (hS.out.en.isS g l (by simp)) hL1 (by rw [EL.out]; exact hLl) (by have := HC.out; omega) (by have := HH.out; omega) HM.out
              rw [EL.out] at hsp
              have HSP := Lib.hid hsp
              have hS6 := Lib.hid hSp
              clear hsp hSp hS hLl hL1
              go_wp2_with fail
              refine (HSP.out).mono ?_; rintro e w7 ⟨X, Y, Z, J, sl, jc, rfl, hsl, hJl, _, _, _, hT, hg, hfr⟩
              have hpw := hS6.out.en.lt (.box pb (.int .i64 c) (.int .i64 h) (.int .i64 m) (.slice (some ⟨g, 0, none⟩) l l)) (by simp)
              have hpw' : pb < w6.heap.size := hpw
              have hS7 := Lib.hid (hS6.out.draw hT hg)
              obtain ⟨jl, ejl⟩ : ∃ x, J.length = x := ⟨_, rfl⟩
              have HJ := Lib.hid (show SliceIs w7 sl J ∧ J.length = jl ∧ jl ≤ 4097 from ⟨hsl, ejl, by rw [← ejl]; exact hJl⟩)
              have HFR := Lib.hid hfr
              have HPW := Lib.hid hpw'
              rw [ejl]
              clear p0 p1 p2 p3 f0 f1 f2 f3 hS6 hT hg hpw hpw' hsl ejl hJl hfr HSP
              obtain ⟨⟨p0, p1, p2, p3⟩, f0, f1, f2, f3⟩ := (show Box4 _ _ _ _ _ _ from hS7.out.en.ok _ (List.mem_cons_self ..))
              go_wp2_with fail
              go_meet
              exact ⟨X, Y, Z, J, sl, jl, jc, Lib.hid ⟨is_grown2 HJ.out.1 (gput4 (gref _ (some pb)) (.inr rfl) _ _ _ _) (fun b o e => by have := HFR.out b o e; have := HPW.out; simp; omega), HJ.out.2⟩, Lib.hid (hS7.out.setbox _ _ _ _)⟩
            · have h9' : (d == 9) = false := beq_false_of_ne h9
              have hsl := hS.out.en.isS g l (L := L) (by simp)
              have HSL := Lib.hid hsl
              have HSP := Lib.hid hSp
              clear hsl hSp hS hL1
              go_wp2_with fail
              go_meet
              exact ⟨c, h, m, L, _, l, l, Lib.hid ⟨HSL.out, EL.out, by omega⟩, HSP⟩
          case rest =>
            clear hS
            obtain ⟨X, Y, Z, J, sl, jl, jc, HJ, hS⟩ := hcut
            obtain ⟨o, eo⟩ : ∃ o, tileO X Y Z J q f a b K s 255 x0 y0 x1 y1 = o := ⟨_, rfl⟩
            obtain ⟨cd, ecd⟩ : ∃ v, tileC X Y Z J q f a b K s 255 x0 y0 x1 y1 = v := ⟨_, rfl⟩
            obtain ⟨X2, eX2⟩ : ∃ v, orT (x1 - x0) o = v := ⟨_, rfl⟩
            obtain ⟨Y2, eY2⟩ : ∃ v, orT (y1 - y0) o = v := ⟨_, rfl⟩
            obtain ⟨Z2, eZ2⟩ : ∃ v, orT 255 o = v := ⟨_, rfl⟩
            obtain ⟨C, eC⟩ : ∃ v, o.getD [] = v := ⟨_, rfl⟩
            obtain ⟨n, en⟩ : ∃ v, C.length = v := ⟨_, rfl⟩
            have HF := Lib.hid (And.intro eo (And.intro eX2 (And.intro eY2 (And.intro eZ2 (And.intro eC (And.intro en ecd))))))
            have hn := Lib.hid (show n ≤ 4096 by rw [← en, ← eC, ← eo]; exact tileO_len)
            clear eo eX2 eY2 eZ2 eC en ecd
            obtain ⟨p0, p1, p2, p3⟩ := hS.out.en.box pb (v0 := .int .i64 X) (v1 := .int .i64 Y) (v2 := .int .i64 Z) (v3 := .slice sl jl jc) (by simp)
            obtain ⟨e0, e1⟩ := hS.out.en.two be (v0 := .int .i64 q) (v1 := .int .i64 f) (by simp)
            obtain ⟨r0, r1, r2, r3⟩ := hS.out.en.box bq (v0 := .int .i64 x0) (v1 := .int .i64 y0) (v2 := .int .i64 x1) (v3 := .int .i64 y1) (by simp)
            go_wp2_with fail
            refine (ctile_u (cw := 0) (ch := 0) HF.out.1 HF.out.2.1 HF.out.2.2.1 HF.out.2.2.2.1 HF.out.2.2.2.2.1 HF.out.2.2.2.2.2.1 HF.out.2.2.2.2.2.2 HJ.out.2.1 EKL.out (by have := HJ.out.2.2; omega) (by have := hkl.out; omega) _ _ _ _ _ HJ.out.1 (hS.out.en.isS gK cK (by simp))).mono ?_; rintro e w8 ⟨sa, ca, rfl, hsa, hb⟩
            have hS1 := (hS.out.call hb).new (.int .i64 X2) (.int .i64 Y2) (.int .i64 Z2) (.slice sa n ca) 35
            have hB1 := balloc hb (.cells #[.int .i64 X2, .int .i64 Y2, .int .i64 Z2, .slice sa n ca] 35)
            have hA1 := is_below hsa (balloc (bref _) (.cells #[.int .i64 X2, .int .i64 Y2, .int .i64 Z2, .slice sa n ca] 35))
            obtain ⟨xb, exb⟩ : ∃ x, w8.heap.size = x := ⟨_, rfl⟩
            obtain ⟨w9, ew9⟩ : ∃ x, w8.alloc (.cells #[.int .i64 X2, .int .i64 Y2, .int .i64 Z2, .slice sa n ca] 35) = x := ⟨_, rfl⟩
            rw [exb, ew9] at hS1
            rw [ew9] at hB1 hA1
            replace hS := Lib.hid hS1
            have HSA := Lib.hid hA1
            replace HJ := Lib.hid (And.intro (is_below HJ.out.1 hB1) HJ.out.2)
            clear hsa hb hS1 hB1 hA1 p0 p1 p2 p3 e0 e1 r0 r1 r2 r3
            go_upto_region 13 with fail
            (try simp only [exb, ew9])
            clear exb ew9
            obtain ⟨p0, p1, p2, p3⟩ := hS.out.en.box pb (v0 := .int .i64 X) (v1 := .int .i64 Y) (v2 := .int .i64 Z) (v3 := .slice sl jl jc) (by simp)
            obtain ⟨e0, e1⟩ := hS.out.en.two be (v0 := .int .i64 q) (v1 := .int .i64 f) (by simp)
            obtain ⟨r0, r1, r2, r3⟩ := hS.out.en.box bq (v0 := .int .i64 x0) (v1 := .int .i64 y0) (v2 := .int .i64 x1) (v3 := .int .i64 y1) (by simp)
            go_wp2_with fail
            refine (rtile_u (cw := 0) (ch := 0) HF.out.1 HF.out.2.1 HF.out.2.2.1 HF.out.2.2.2.1 HF.out.2.2.2.2.1 HF.out.2.2.2.2.2.1 HF.out.2.2.2.2.2.2 HJ.out.2.1 EKL.out (by have := HJ.out.2.2; omega) (by have := hkl.out; omega) _ _ _ _ _ HJ.out.1 (hS.out.en.isS gK cK (by simp))).mono ?_; rintro e w10 ⟨sb, cb, rfl, hsb, hb⟩
            have hS1 := (hS.out.call hb).new (.int .i64 X2) (.int .i64 Y2) (.int .i64 Z2) (.slice sb n cb) 35
            have hB1 := balloc hb (.cells #[.int .i64 X2, .int .i64 Y2, .int .i64 Z2, .slice sb n cb] 35)
            have hA1 := is_below hsb (balloc (bref _) (.cells #[.int .i64 X2, .int .i64 Y2, .int .i64 Z2, .slice sb n cb] 35))
            obtain ⟨yb, eyb⟩ : ∃ x, w10.heap.size = x := ⟨_, rfl⟩
            obtain ⟨w11, ew11⟩ : ∃ x, w10.alloc (.cells #[.int .i64 X2, .int .i64 Y2, .int .i64 Z2, .slice sb n cb] 35) = x := ⟨_, rfl⟩
            rw [eyb, ew11] at hS1
            rw [ew11] at hB1 hA1
            replace hS := Lib.hid hS1
            have HSB := Lib.hid hA1
            replace HSA := Lib.hid (is_below HSA.out hB1)
            clear hsb hb hS1 hB1 hA1 p0 p1 p2 p3 e0 e1 r0 r1 r2 r3 HJ
            go_upto_region 14 with fail
            (try simp only [eyb, ew11])
            clear eyb ew11
            obtain ⟨p0, p1, p2, p3⟩ := hS.out.en.box xb (v0 := .int .i64 X2) (v1 := .int .i64 Y2) (v2 := .int .i64 Z2) (v3 := .slice sa n ca) (by simp)
            obtain ⟨r0, r1, r2, r3⟩ := hS.out.en.box yb (v0 := .int .i64 X2) (v1 := .int .i64 Y2) (v2 := .int .i64 Z2) (v3 := .slice sb n cb) (by simp)
            go_wp2_with fail
            refine (requal_v HF.out.2.2.2.2.2.1 (by have := hn.out; omega) _ _ _ _ _ HSA.out HSB.out).mono ?_; rintro e w12 ⟨rfl, hb⟩
            have hfin := Lib.hid ((hS.out.call hb).drop 7)
            clear hb p0 p1 p2 p3 r0 r1 r2 r3 HSA HSB
            have hcc : (cd != cd) = false := by simp
            go_wp2_with fail
            go_roundw
            case rel => exact ⟨k + 1, hlt'.out, by go_num, hfin⟩
            case measure => simp [intOf]; omega
    · obtain rfl : k = 3 := by omega
      go_wp2_with fail
      refine (sane_is _).mono ?_; rintro e w13 ⟨rfl, hb⟩
      have hfin := Lib.hid (bthen hBW.out (bthen hS.out.below hb))
      clear hb
      go_wp2_with fail
      go_returns
      exact ⟨rfl, hfin.out⟩
namespace convolveTiles
theorem own : ownKnob Try.prog.godebug = none := by kernel_rfl
theorem laid : laidOutB Try.prog = true := by kernel_rfl
theorem cells26 : Try.prog.cellsOf 33 = 4 := by kernel_rfl
theorem params_ok : ∀ t ∈ Try.f4.params.toList, Try.prog.readableRec t = true ∧ t < Try.prog.types.size := by
  rw [Try.params4]
  intro t ht
  simp at ht
  rcases ht with rfl | rfl <;> exact ⟨by kernel_rfl, of_decide_eq_true (by kernel_rfl)⟩
set_option maxRecDepth 100000 in
theorem lifted (os : Os) (started : os.Started) (H : Type) (enc : TypeId × Value → H) :
    ReturnsInHanded {} Try.checked os 4 .any (Rows.convolveTilesSpec.pre6 enc Try.prog Try.f4 Rows.convolveTilesRow.domain false) (Rows.convolveTilesSpec.post enc Try.prog Try.f4 false true false false) := by
  refine returnsInHanded_of_change (C := Try.checked) own started (by kernel_rfl) Try.func4
    (ChangeSpec.witness6 (enc := enc) (C := Try.checked) false ⟨#[], #[.slice none 0 0, .agg #[.int .i64 0, .int .i64 0, .int .i64 0, .int .i64 0]], []⟩ 8 (by kernel_rfl) (by kernel_rfl) (by kernel_rfl) (by kernel_rfl)) ?_
  intro W base args ds gs before hval0 hW hcnd _
  have hval : ∀ (j : Nat) t v, Try.f4.params[j]? = some t → args[j]? = some v → Value.okWide Try.prog W .any base t v := hval0
  have hW' := hW
  obtain ⟨p, q, hA0, hV, rfl, hfz, hnd⟩ := hW
  have hA : DataW.TrodAll enc Try.prog W 0 (fun _ => true) true Try.f4.params.toList args.toList ds p := hA0
  rw [Try.params4] at hA hval
  obtain ⟨v0, vs0, d0, ds0, p0, q0, hargs, rfl, rfl, h0, r0⟩ := trodAll_cons hA
  obtain ⟨v1, vs1, d1, ds1, p1, q1, rfl, rfl, rfl, h1, r1⟩ := trodAll_cons r0
  obtain ⟨rfl, rfl, rfl⟩ := trodAll_nil r1
  obtain rfl : args = #[v0, v1] := by cases args; simp_all
  obtain ⟨rfl, rfl⟩ := trodVars_none hV
  obtain ⟨a0, len, cap, rfl⟩ := okWide_slice Try.underlying22 (hval 0 22 v0 rfl rfl)
  obtain ⟨xs, rfl, hs, hf, hl⟩ := open_list h0
  obtain ⟨c0, c1, c2, c3, y0, y1, y2, y3, m, rfl, rfl, rfl, hy0, hy1, hy2, hy3⟩ := Joins.open_agg4 Try.underlying33 (by kernel_rfl) cells26 (hval 1 33 v1 rfl rfl) h1
  obtain ⟨r1a, ez, _, _⟩ := DataW.trod_int Try.underlying3 hy0
  simp only [List.cons.injEq, and_true] at ez
  subst ez
  obtain ⟨r1b, ez, _, _⟩ := DataW.trod_int Try.underlying3 hy1
  simp only [List.cons.injEq, and_true] at ez
  subst ez
  obtain ⟨r1c, ez, _, _⟩ := DataW.trod_int Try.underlying3 hy2
  simp only [List.cons.injEq, and_true] at ez
  subst ez
  obtain ⟨r1d, ez, _, _⟩ := DataW.trod_int Try.underlying3 hy3
  simp only [List.cons.injEq, and_true] at ez
  subst ez
  clear hA0 hval0
  have fin : Calls Try.prog 4 #[.slice a0 xs.length cap, .agg #[.int .i64 r1a, .int .i64 r1b, .int .i64 r1c, .int .i64 r1d]] W (TestPost true W) := tiles_walk xs a0 cap r1a r1b r1c r1d W hs hf hl
  refine fin.mono fun e W' ⟨he, hb⟩ => ?_
  subst he
  exact ⟨_, rfl, law_post laid rfl Try.underlying4 params_ok rfl hW' rfl hb⟩

theorem over : Rows.convolveTilesRow.holds Try.pinned (OpenSpec.ofChange Rows.convolveTilesSpec) :=
  OpenClaim.holds_of_wide 4 Try.f4 rfl rfl rfl rfl rfl rfl rfl ⟨rfl, rfl, rfl, rfl, rfl⟩ rfl rfl rfl rfl rfl (by kernel_rfl) Try.func4 (by kernel_rfl)
    (of_decide_eq_true (by kernel_rfl)) (by unfold Func.isWrapper; first | (rw [if_pos (by decide +kernel)]; kernel_rfl) | (rw [if_neg (by decide +kernel)]; exact ⟨rfl, rfl⟩))
    (fun os started H enc _ => lifted os started H enc)

/-- the statement -/
theorem proved : Rows.ConvolveTilesSaid := over
#print axioms proved
end convolveTiles
end Go.Proofs.Ytibmoibhbgbfoaa
