/- For every list of numbers, rectangle and place the statement PlaneCrops returns true: crops and blits are those of the reference. No condition. -/
import Derived.Test.YtpmajophkhihlaaPLawKit
import Derived.Deep.DeepCutAuto
namespace Go.Proofs.Ytpmajophkhihlaa
open Go.ChangeShapes Go.WideShapes Go.ChangeAt Go.RowKit
set_option linter.unusedVariables false
set_option linter.unusedSimpArgs false

set_option maxRecDepth 100000 in
set_option maxHeartbeats 4000000 in
theorem crops_walk (xs : List Int) (a0 : Option Addr) (cap : Nat) (qa qb qc qd x y : Int) (w : World) (hs : SliceIs w a0 xs) (hf : Fits xs) (hl : xs.length ≤ 9223372036854775807) :
    Calls Try.prog 6 #[.slice a0 xs.length cap, .agg #[.int .i64 qa, .int .i64 qb, .int .i64 qc, .int .i64 qd], .int .i64 x, .int .i64 y] w (TestPost true w) := by
  have hs' := Lib.hid (is_below hs (balloc (bref w) (.cells #[.int .i64 qa, .int .i64 qb, .int .i64 qc, .int .i64 qd] 31)))
  have hf' := Lib.hid hf
  clear hs hf
  go_enter Try.func6, Try.ntmps6
  go_wp2_with fail
  have hq : (w.alloc (.cells #[.int .i64 qa, .int .i64 qb, .int .i64 qc, .int .i64 qd] 31)).cell? ⟨w.heap.size, 0, none⟩ = some (.int .i64 qa) ∧ (w.alloc (.cells #[.int .i64 qa, .int .i64 qb, .int .i64 qc, .int .i64 qd] 31)).cell? ⟨w.heap.size, 1, none⟩ = some (.int .i64 qb) ∧ (w.alloc (.cells #[.int .i64 qa, .int .i64 qb, .int .i64 qc, .int .i64 qd] 31)).cell? ⟨w.heap.size, 2, none⟩ = some (.int .i64 qc) ∧ (w.alloc (.cells #[.int .i64 qa, .int .i64 qb, .int .i64 qc, .int .i64 qd] 31)).cell? ⟨w.heap.size, 3, none⟩ = some (.int .i64 qd) :=
    ⟨by go_cell, by go_cell, by go_cell, by go_cell⟩
  replace hq := Lib.hid hq
  obtain ⟨W, eW⟩ : ∃ W, w.alloc (.cells #[.int .i64 qa, .int .i64 qb, .int .i64 qc, .int .i64 qd] 31) = W := ⟨_, rfl⟩
  have hBW := Lib.hid (balloc (bref w) (.cells #[.int .i64 qa, .int .i64 qb, .int .i64 qc, .int .i64 qd] 31))
  rw [eW] at hs' hBW hq
  simp only [eW]
  clear eW
  refine (new_any a0 cap xs _ hs'.out hf'.out hl).mono ?_; rintro e w1 ⟨rfl, hT⟩
  have hS := Lib.hid (St.start hT)
  clear hT
  go_wp2_with fail
  refine (next_some W W.heap.size a0 cap xs _ _ hS.out.tape (by omega) (by omega)).mono ?_; rintro e w2 ⟨xx, rfl, ⟨x0, x1⟩, hT, hg⟩
  replace hS := Lib.hid (hS.out.draw hT hg)
  clear hT hg
  go_wp2_with fail
  refine (next_some W W.heap.size a0 cap xs _ _ hS.out.tape (by omega) (by omega)).mono ?_; rintro e w3 ⟨yy, rfl, ⟨y0, y1⟩, hT, hg⟩
  replace hS := Lib.hid (hS.out.draw hT hg)
  clear hT hg
  go_wp2_with fail
  obtain ⟨c, ec⟩ : ∃ c, 2 + xx = c := ⟨_, rfl⟩
  obtain ⟨h, eh⟩ : ∃ h, 2 + yy = h := ⟨_, rfl⟩
  have hc : 2 ≤ c ∧ c ≤ 6 := by omega
  have hh : 2 ≤ h ∧ h ≤ 5 := by omega
  simp only [ec, eh]
  clear ec eh x0 x1 y0 y1
  refine (sized_int W W.heap.size a0 cap xs c h _ hS.out.tape (by omega) (by omega) (by omega) (by omega)).mono ?_; rintro e w4 ⟨m, g, L, rfl, hv, hm, hP, hT, hg⟩
  replace hS := Lib.hid (hS.out.drawn hP hT hg)
  have hv' := Lib.hid hv
  clear hP hT hg hv
  go_wp2_with fail
  refine (plane_any W W.heap.size a0 cap xs _ hS.out.tape).mono ?_; rintro e w5 ⟨c2, h2, hc2, hh2, m2, g2, L2, rfl, hv2, hm2, hP, hT, hg⟩
  have hSn := ((hS.out.drawn hP hT hg).new (.int .i64 c) (.int .i64 h) (.int .i64 m) (.slice (some ⟨g, 0, none⟩) L.length L.length) 26).new (.int .i64 c2) (.int .i64 h2) (.int .i64 m2) (.slice (some ⟨g2, 0, none⟩) L2.length L2.length) 26
  rw [World.size_alloc] at hSn
  replace hS := Lib.hid hSn
  have hv2' := Lib.hid hv2
  clear hP hT hg hv2 hSn
  have hcL := Lib.hid (hS.out.en.pix g L.length (L := L) (by simp)).cap
  have hcL2 := Lib.hid (hS.out.en.pix g2 L2.length (L := L2) (by simp)).cap
  have hL := Lib.hid (plane_len hv'.out)
  have hL2 := Lib.hid (plane_len hv2'.out)
  go_wp2_with fail
  go_loopw [12] (fun i wr => ∃ k : Nat, k ≤ 5 ∧ i = .int .i64 k ∧ Hid (St W W.heap.size a0 cap xs _ wr)) (fun i _ => 5 - (intOf i).toNat)
  case atStart => exact ⟨0, by omega, rfl, hS⟩
  case round =>
    clear hS
    obtain ⟨k, hk, rfl, hS⟩ := hrel
    by_cases hlt : k < 5
    · have hkI : (k : Int) < 5 := by omega
      go_wp2_with fail
      refine (rect_some W W.heap.size a0 cap xs _ hS.out.tape).mono ?_; rintro e w6 ⟨r0, r1, r2, r3, rfl, _, hT, hg⟩
      replace hS := Lib.hid (hS.out.draw hT hg)
      clear hT hg
      go_wp2_with fail
      refine (next_some W W.heap.size a0 cap xs _ _ hS.out.tape (by omega) (by omega)).mono ?_; rintro e w7 ⟨u, rfl, ⟨u0, u1⟩, hT, hg⟩
      replace hS := Lib.hid (hS.out.draw hT hg)
      clear hT hg
      go_wp2_with fail
      refine (next_some W W.heap.size a0 cap xs _ _ hS.out.tape (by omega) (by omega)).mono ?_; rintro e w8 ⟨v, rfl, ⟨v0, v1⟩, hT, hg⟩
      have hS0 := Lib.hid (hS.out.draw hT hg)
      replace hS := Lib.hid (hS0.out.new (.int .i64 r0) (.int .i64 r1) (.int .i64 r2) (.int .i64 r3) 31)
      clear hT hg
      go_upto_if 49 with fail
      go_cut [14, 15] (fun s t wx => ∃ A B E D U V : Int, s = .int .i64 U ∧ t = .int .i64 V ∧ Hid (St W W.heap.size a0 cap xs [.box w8.heap.size (.int .i64 A) (.int .i64 B) (.int .i64 E) (.int .i64 D), .box (w5.heap.size + 1) (.int .i64 c2) (.int .i64 h2) (.int .i64 m2) (.slice (some ⟨g2, 0, none⟩) L2.length L2.length), .box w5.heap.size (.int .i64 c) (.int .i64 h) (.int .i64 m) (.slice (some ⟨g, 0, none⟩) L.length L.length), .pix g2 L2.length L2, .pix g L.length L] wx))
      case first =>
        by_cases h4 : k = 4
        · subst h4
          obtain ⟨s0, s1, s2, s3⟩ := hS.out.en.box w8.heap.size (v0 := .int .i64 r0) (v1 := .int .i64 r1) (v2 := .int .i64 r2) (v3 := .int .i64 r3) (by simp)
          obtain ⟨f0, f1, f2, f3⟩ := (hS.out.en.ok _ (List.mem_cons_self ..)).2
          have t0 := bkeep hS.out.below hq.out.1
          have t1 := bkeep hS.out.below hq.out.2.1
          have t2 := bkeep hS.out.below hq.out.2.2.1
          have t3 := bkeep hS.out.below hq.out.2.2.2
          go_wp2_with fail
          go_meet
          exact ⟨_, _, _, _, _, _, rfl, rfl, Lib.hid (hS0.out.new _ _ _ _ _)⟩
        · have h4' : ((k : Int) == 4) = false := beq_false_of_ne (by omega)
          go_wp2_with fail
          go_meet
          exact ⟨_, _, _, _, _, _, rfl, rfl, hS⟩
      case rest =>
        clear hS hS0
        obtain ⟨A, B, E, D, U, V, rfl, rfl, hS⟩ := hcut
        obtain ⟨o, eo⟩ : ∃ o, cropO c h m L A B E D = o := ⟨_, rfl⟩
        obtain ⟨X, hX⟩ : ∃ X, orZ (E - A) o = X := ⟨_, rfl⟩
        obtain ⟨Y, hY⟩ : ∃ Y, orZ (D - B) o = Y := ⟨_, rfl⟩
        obtain ⟨Z, hZ⟩ : ∃ Z, orZ m o = Z := ⟨_, rfl⟩
        obtain ⟨K, hK⟩ : ∃ K, o.getD [] = K := ⟨_, rfl⟩
        obtain ⟨ok, hok⟩ : ∃ v, o.isSome = v := ⟨_, rfl⟩
        have hKl := Lib.hid (show K.length ≤ 4096 by rw [← hK, ← eo]; exact cropO_len)
        have hF := Lib.hid (And.intro eo (And.intro hX (And.intro hY (And.intro hZ (And.intro hK hok)))))
        clear eo hX hY hZ hK hok
        obtain ⟨p0, p1, p2, p3⟩ := hS.out.en.box w5.heap.size (v0 := .int .i64 c) (v1 := .int .i64 h) (v2 := .int .i64 m) (v3 := .slice (some ⟨g, 0, none⟩) L.length L.length) (by simp)
        obtain ⟨s0, s1, s2, s3⟩ := hS.out.en.box w8.heap.size (v0 := .int .i64 A) (v1 := .int .i64 B) (v2 := .int .i64 E) (v3 := .int .i64 D) (by simp)
        go_wp2_with fail
        refine (pcrop_any c h m L _ L.length A B E D _ (hS.out.en.isS g L.length (by simp)) hcL.out.1 hcL.out.2).mono ?_; intro e wa hpost
        obtain ⟨sa, ca, rfl, hsa, hb⟩ := post_any (X := X) (Y := Y) (Z := Z) (K := K) (v := ok) hpost (by rw [hF.out.1]; exact hF.out.2.1) (by rw [hF.out.1]; exact hF.out.2.2.1) (by rw [hF.out.1]; exact hF.out.2.2.2.1) (by rw [hF.out.1]; exact hF.out.2.2.2.2.1) (by rw [hF.out.1]; exact hF.out.2.2.2.2.2)
        replace hS := Lib.hid ((hS.out.call hb).new (.int .i64 X) (.int .i64 Y) (.int .i64 Z) (.slice sa K.length ca) 26)
        replace hsa := Lib.hid (is_below hsa (balloc (bref _) (.cells #[.int .i64 X, .int .i64 Y, .int .i64 Z, .slice sa K.length ca] 26)))
        clear hpost hb p0 p1 p2 p3 s0 s1 s2 s3
        obtain ⟨p0, p1, p2, p3⟩ := hS.out.en.box w5.heap.size (v0 := .int .i64 c) (v1 := .int .i64 h) (v2 := .int .i64 m) (v3 := .slice (some ⟨g, 0, none⟩) L.length L.length) (by simp)
        obtain ⟨s0, s1, s2, s3⟩ := hS.out.en.box w8.heap.size (v0 := .int .i64 A) (v1 := .int .i64 B) (v2 := .int .i64 E) (v3 := .int .i64 D) (by simp)
        go_wp2_with fail
        refine (rcrop_any c h m L _ L.length A B E D _ (hS.out.en.isS g L.length (by simp)) (by have := hL.out; omega)).mono ?_; intro e wb hpost
        obtain ⟨sb, cb, rfl, hsb, hb⟩ := post_any (X := X) (Y := Y) (Z := Z) (K := K) (v := ok) hpost (by rw [hF.out.1]; exact hF.out.2.1) (by rw [hF.out.1]; exact hF.out.2.2.1) (by rw [hF.out.1]; exact hF.out.2.2.2.1) (by rw [hF.out.1]; exact hF.out.2.2.2.2.1) (by rw [hF.out.1]; exact hF.out.2.2.2.2.2)
        replace hS := Lib.hid ((hS.out.call hb).new (.int .i64 X) (.int .i64 Y) (.int .i64 Z) (.slice sb K.length cb) 26)
        replace hsa := Lib.hid (is_below hsa.out (balloc hb (.cells #[.int .i64 X, .int .i64 Y, .int .i64 Z, .slice sb K.length cb] 26)))
        replace hsb := Lib.hid (is_below hsb (balloc (bref _) (.cells #[.int .i64 X, .int .i64 Y, .int .i64 Z, .slice sb K.length cb] 26)))
        clear hpost hb p0 p1 p2 p3 s0 s1 s2 s3
        obtain ⟨o2, eo⟩ : ∃ o, blitO c h m L c2 h2 m2 L2 U V = o := ⟨_, rfl⟩
        obtain ⟨X2, hX⟩ : ∃ X, orZ c o2 = X := ⟨_, rfl⟩
        obtain ⟨Y2, hY⟩ : ∃ Y, orZ h o2 = Y := ⟨_, rfl⟩
        obtain ⟨Z2, hZ⟩ : ∃ Z, orZ m o2 = Z := ⟨_, rfl⟩
        obtain ⟨K2, hK⟩ : ∃ K, o2.getD [] = K := ⟨_, rfl⟩
        obtain ⟨ok2, hok⟩ : ∃ v, o2.isSome = v := ⟨_, rfl⟩
        have hKl2 := Lib.hid (show K2.length ≤ 4096 by rw [← hK, ← eo]; exact blitO_len)
        have hG := Lib.hid (And.intro eo (And.intro hX (And.intro hY (And.intro hZ (And.intro hK hok)))))
        clear eo hX hY hZ hK hok
        obtain ⟨p0, p1, p2, p3⟩ := hS.out.en.box w5.heap.size (v0 := .int .i64 c) (v1 := .int .i64 h) (v2 := .int .i64 m) (v3 := .slice (some ⟨g, 0, none⟩) L.length L.length) (by simp)
        obtain ⟨q0, q1, q2, q3⟩ := hS.out.en.box (w5.heap.size + 1) (v0 := .int .i64 c2) (v1 := .int .i64 h2) (v2 := .int .i64 m2) (v3 := .slice (some ⟨g2, 0, none⟩) L2.length L2.length) (by simp)
        go_wp2_with fail
        refine (pblit_any c h m L _ L.length c2 h2 m2 L2 _ L2.length U V _ (hS.out.en.isS g L.length (by simp)) (hS.out.en.isS g2 L2.length (by simp)) hcL.out.1 hcL.out.2 hcL2.out.1 hcL2.out.2).mono ?_; intro e wf hpost
        obtain ⟨sd, cd, rfl, hsd, hb⟩ := post_any (X := X2) (Y := Y2) (Z := Z2) (K := K2) (v := ok2) hpost (by rw [hG.out.1]; exact hG.out.2.1) (by rw [hG.out.1]; exact hG.out.2.2.1) (by rw [hG.out.1]; exact hG.out.2.2.2.1) (by rw [hG.out.1]; exact hG.out.2.2.2.2.1) (by rw [hG.out.1]; exact hG.out.2.2.2.2.2)
        replace hS := Lib.hid ((hS.out.call hb).new (.int .i64 X2) (.int .i64 Y2) (.int .i64 Z2) (.slice sd K2.length cd) 26)
        replace hsa := Lib.hid (is_below hsa.out (balloc hb (.cells #[.int .i64 X2, .int .i64 Y2, .int .i64 Z2, .slice sd K2.length cd] 26)))
        replace hsb := Lib.hid (is_below hsb.out (balloc hb (.cells #[.int .i64 X2, .int .i64 Y2, .int .i64 Z2, .slice sd K2.length cd] 26)))
        replace hsd := Lib.hid (is_below hsd (balloc (bref _) (.cells #[.int .i64 X2, .int .i64 Y2, .int .i64 Z2, .slice sd K2.length cd] 26)))
        clear hpost hb p0 p1 p2 p3 q0 q1 q2 q3
        obtain ⟨p0, p1, p2, p3⟩ := hS.out.en.box w5.heap.size (v0 := .int .i64 c) (v1 := .int .i64 h) (v2 := .int .i64 m) (v3 := .slice (some ⟨g, 0, none⟩) L.length L.length) (by simp)
        obtain ⟨q0, q1, q2, q3⟩ := hS.out.en.box (w5.heap.size + 1) (v0 := .int .i64 c2) (v1 := .int .i64 h2) (v2 := .int .i64 m2) (v3 := .slice (some ⟨g2, 0, none⟩) L2.length L2.length) (by simp)
        go_wp2_with fail
        refine (rblit_any c h m L _ L.length c2 h2 m2 L2 _ L2.length U V _ (hS.out.en.isS g L.length (by simp)) (by have := hL.out; omega) (hS.out.en.isS g2 L2.length (by simp)) (by have := hL2.out; omega)).mono ?_; intro e wg hpost
        obtain ⟨se, ce, rfl, hse, hb⟩ := post_any (X := X2) (Y := Y2) (Z := Z2) (K := K2) (v := ok2) hpost (by rw [hG.out.1]; exact hG.out.2.1) (by rw [hG.out.1]; exact hG.out.2.2.1) (by rw [hG.out.1]; exact hG.out.2.2.2.1) (by rw [hG.out.1]; exact hG.out.2.2.2.2.1) (by rw [hG.out.1]; exact hG.out.2.2.2.2.2)
        replace hS := Lib.hid ((hS.out.call hb).new (.int .i64 X2) (.int .i64 Y2) (.int .i64 Z2) (.slice se K2.length ce) 26)
        replace hsa := Lib.hid (is_below hsa.out (balloc hb (.cells #[.int .i64 X2, .int .i64 Y2, .int .i64 Z2, .slice se K2.length ce] 26)))
        replace hsb := Lib.hid (is_below hsb.out (balloc hb (.cells #[.int .i64 X2, .int .i64 Y2, .int .i64 Z2, .slice se K2.length ce] 26)))
        replace hsd := Lib.hid (is_below hsd.out (balloc hb (.cells #[.int .i64 X2, .int .i64 Y2, .int .i64 Z2, .slice se K2.length ce] 26)))
        replace hse := Lib.hid (is_below hse (balloc (bref _) (.cells #[.int .i64 X2, .int .i64 Y2, .int .i64 Z2, .slice se K2.length ce] 26)))
        clear hpost hb p0 p1 p2 p3 q0 q1 q2 q3
        obtain ⟨p0, p1, p2, p3⟩ := hS.out.en.box wa.heap.size (v0 := .int .i64 X) (v1 := .int .i64 Y) (v2 := .int .i64 Z) (v3 := .slice sa K.length ca) (by simp)
        obtain ⟨q0, q1, q2, q3⟩ := hS.out.en.box wb.heap.size (v0 := .int .i64 X) (v1 := .int .i64 Y) (v2 := .int .i64 Z) (v3 := .slice sb K.length cb) (by simp)
        have hvv : (ok != ok) = false := by cases ok <;> rfl
        have hvv2 : (ok2 != ok2) = false := by cases ok2 <;> rfl
        go_wp2_with fail
        refine (requal_self _ _ _ K _ _ _ _ _ hsa.out hsb.out hKl.out).mono ?_; rintro e wh ⟨rfl, hb⟩
        replace hS := Lib.hid (hS.out.call hb)
        replace hsd := Lib.hid (is_below hsd.out hb)
        replace hse := Lib.hid (is_below hse.out hb)
        clear hb p0 p1 p2 p3 q0 q1 q2 q3 hsa hsb
        obtain ⟨p0, p1, p2, p3⟩ := hS.out.en.box wf.heap.size (v0 := .int .i64 X2) (v1 := .int .i64 Y2) (v2 := .int .i64 Z2) (v3 := .slice sd K2.length cd) (by simp)
        obtain ⟨q0, q1, q2, q3⟩ := hS.out.en.box wg.heap.size (v0 := .int .i64 X2) (v1 := .int .i64 Y2) (v2 := .int .i64 Z2) (v3 := .slice se K2.length ce) (by simp)
        go_wp2_with fail
        refine (requal_self _ _ _ K2 _ _ _ _ _ hsd.out hse.out hKl2.out).mono ?_; rintro e wi ⟨rfl, hb⟩
        replace hS := Lib.hid ((hS.out.call hb).drop 5)
        clear hb p0 p1 p2 p3 q0 q1 q2 q3 hsd hse
        go_wp2_with fail
        go_roundw
        case rel => exact ⟨k + 1, by omega, by go_num, hS⟩
        case measure => simp [intOf]; omega
    · obtain rfl : k = 5 := by omega
      go_wp2_with fail
      refine (sane_any _).mono ?_; rintro e w9 ⟨rfl, hb⟩
      go_wp2_with fail
      go_ret
      exact ⟨rfl, bthen hBW.out (bthen hS.out.below hb)⟩

namespace planeCrops
theorem own : ownKnob Try.prog.godebug = none := by kernel_rfl
theorem laid : laidOutB Try.prog = true := by kernel_rfl
theorem cells26 : Try.prog.cellsOf 31 = 4 := by kernel_rfl
theorem params_ok : ∀ t ∈ Try.f6.params.toList, Try.prog.readableRec t = true ∧ t < Try.prog.types.size := by
  rw [Try.params6]
  intro t ht
  simp at ht
  rcases ht with rfl | rfl | rfl | rfl <;> exact ⟨by kernel_rfl, of_decide_eq_true (by kernel_rfl)⟩
set_option maxRecDepth 100000 in
theorem lifted (os : Os) (started : os.Started) (H : Type) (enc : TypeId × Value → H) :
    ReturnsInHanded {} Try.checked os 6 .any (Rows.planeCropsSpec.pre6 enc Try.prog Try.f6 Rows.planeCropsRow.domain false) (Rows.planeCropsSpec.post enc Try.prog Try.f6 false true false false) := by
  refine returnsInHanded_of_change (C := Try.checked) own started (by kernel_rfl) Try.func6
    (ChangeSpec.witness6 (enc := enc) (C := Try.checked) false ⟨#[], #[.slice none 0 0, .agg #[.int .i64 0, .int .i64 0, .int .i64 0, .int .i64 0], .int .i64 0, .int .i64 0], []⟩ 8 (by kernel_rfl) (by kernel_rfl) (by kernel_rfl) (by kernel_rfl)) ?_
  intro W base args ds gs before hval0 hW hcnd _
  have hval : ∀ (j : Nat) t v, Try.f6.params[j]? = some t → args[j]? = some v → Value.okWide Try.prog W .any base t v := hval0
  have hW' := hW
  obtain ⟨p, q, hA0, hV, rfl, hfz, hnd⟩ := hW
  have hA : DataW.TrodAll enc Try.prog W 0 (fun _ => true) true Try.f6.params.toList args.toList ds p := hA0
  rw [Try.params6] at hA hval
  obtain ⟨v0, vs0, d0, ds0, p0, q0, hargs, rfl, rfl, h0, r0⟩ := trodAll_cons hA
  obtain ⟨v1, vs1, d1, ds1, p1, q1, rfl, rfl, rfl, h1, r1⟩ := trodAll_cons r0
  obtain ⟨v2, vs2, d2, ds2, p2, q2, rfl, rfl, rfl, h2, r2⟩ := trodAll_cons r1
  obtain ⟨v3, vs3, d3, ds3, p3, q3, rfl, rfl, rfl, h3, r3⟩ := trodAll_cons r2
  obtain ⟨rfl, rfl, rfl⟩ := trodAll_nil r3
  obtain rfl : args = #[v0, v1, v2, v3] := by cases args; simp_all
  obtain ⟨rfl, rfl⟩ := trodVars_none hV
  obtain ⟨a0, len, cap, rfl⟩ := okWide_slice Try.underlying22 (hval 0 22 v0 rfl rfl)
  obtain ⟨xs, rfl, hs, hf, hl⟩ := open_list h0
  obtain ⟨c0, c1, c2, c3, y0, y1, y2, y3, m, rfl, rfl, rfl, hy0, hy1, hy2, hy3⟩ := Joins.open_agg4 Try.underlying31 (by kernel_rfl) cells26 (hval 1 31 v1 rfl rfl) h1
  obtain ⟨r1a, ez, _, _⟩ := DataW.trod_int Try.underlying3 hy0
  simp only [List.cons.injEq, and_true] at ez
  subst ez
  obtain ⟨r1b, ez, _, _⟩ := DataW.trod_int Try.underlying3 hy1
  simp only [List.cons.injEq, and_true] at ez
  subst ez
  obtain ⟨r1c, ez, _, _⟩ := DataW.trod_int Try.underlying3 hy2
  simp only [List.cons.injEq, and_true] at ez
  subst ez
  obtain ⟨r1d, ez, _, _⟩ := DataW.trod_int Try.underlying3 hy3
  simp only [List.cons.injEq, and_true] at ez
  subst ez
  obtain ⟨i2, rfl, rfl, rfl, w2⟩ := open_int Try.underlying3 (hval 2 3 v2 rfl rfl) h2
  obtain ⟨i3, rfl, rfl, rfl, w3⟩ := open_int Try.underlying3 (hval 3 3 v3 rfl rfl) h3
  clear hA0 hval0
  have fin : Calls Try.prog 6 #[.slice a0 xs.length cap, .agg #[.int .i64 r1a, .int .i64 r1b, .int .i64 r1c, .int .i64 r1d], .int .i64 i2, .int .i64 i3] W (TestPost true W) := crops_walk xs a0 cap r1a r1b r1c r1d i2 i3 W hs hf hl
  refine fin.mono fun e W' ⟨he, hb⟩ => ?_
  subst he
  exact ⟨_, rfl, law_post laid rfl Try.underlying4 params_ok rfl hW' rfl hb⟩

theorem over : Rows.planeCropsRow.holds Try.pinned (OpenSpec.ofChange Rows.planeCropsSpec) :=
  OpenClaim.holds_of_wide 6 Try.f6 rfl rfl rfl rfl rfl rfl rfl ⟨rfl, rfl, rfl, rfl, rfl⟩ rfl rfl rfl rfl rfl (by kernel_rfl) Try.func6 (by kernel_rfl)
    (of_decide_eq_true (by kernel_rfl)) (by unfold Func.isWrapper; first | (rw [if_pos (by decide +kernel)]; kernel_rfl) | (rw [if_neg (by decide +kernel)]; exact ⟨rfl, rfl⟩))
    (fun os started H enc _ => lifted os started H enc)

/-- the statement -/
theorem proved : Rows.PlaneCropsSaid := over
#print axioms proved
end planeCrops
end Go.Proofs.Ytpmajophkhihlaa
