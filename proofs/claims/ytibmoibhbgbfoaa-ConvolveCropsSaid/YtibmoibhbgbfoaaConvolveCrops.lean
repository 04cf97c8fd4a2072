/- For every list of numbers the statement ConvolveCrops returns true: the tile of a rectangle is the crop of the tile of the whole plane. No condition. -/
import Derived.Test.YtibmoibhbgbfoaaCSane
import Derived.Test.YtibmoibhbgbfoaaTreeKit
import Derived.Test.YtibmoibhbgbfoaaCKit
namespace Go.Proofs.Ytibmoibhbgbfoaa
open Go.ChangeShapes Go.WideShapes Go.ChangeAt Go.RowKit
set_option linter.unusedVariables false
set_option linter.unusedSimpArgs false

set_option maxRecDepth 100000 in
set_option maxHeartbeats 4000000 in
theorem crops_walk (xs : List Int) (a0 : Option Addr) (cap : Nat) (W : World) (hs : SliceIs W a0 xs) (hf : Fits xs) (hl : xs.length ≤ 9223372036854775807) :
    Calls Try.prog 5 #[.slice a0 xs.length cap] W (TestPost true W) := by
  have hs' := Lib.hid hs
  have hf' := Lib.hid hf
  clear hs hf
  go_enter Try.func5, Try.ntmps5
  go_wp2_with fail
  refine (new_any a0 cap xs _ hs'.out hf'.out hl).mono ?_; rintro e w1 ⟨rfl, hT⟩
  have hS := Lib.hid (St.start hT)
  clear hT
  go_wp2_with fail
  refine (plane_any W W.heap.size a0 cap xs _ hS.out.tape).mono ?_; rintro e w2 ⟨c, h, hc, hh, m, g, L, rfl, hv, hm, hP, hT, hg⟩
  replace hS := Lib.hid ((hS.out.drawn hP hT hg).new (.int .i64 c) (.int .i64 h) (.int .i64 m) (.slice (some ⟨g, 0, none⟩) L.length L.length) 35)
  have hv' := Lib.hid hv
  clear hP hT hg hv
  obtain ⟨pb, epb⟩ : ∃ pb, w2.heap.size = pb := ⟨_, rfl⟩
  obtain ⟨w3, ew3⟩ : ∃ w3, w2.alloc (.cells #[.int .i64 c, .int .i64 h, .int .i64 m, .slice (some ⟨g, 0, none⟩) L.length L.length] 35) = w3 := ⟨_, rfl⟩
  rw [ew3, epb] at hS
  go_upto_region 3 with fail
  (try simp only [ew3, epb])
  clear ew3 epb
  have HM : Hid (-9223372036854775808 ≤ m ∧ m ≤ 9223372036854775807) := Lib.hid (by have := (sizeB_t.1 (planeB_t.1 hv'.out).1).2.2.2; omega)
  go_cut [5, 6, 7] (fun x y z wx => ∃ (b gK cK : Nat) (K : List Int) (q f s : Int), x = .slice (some ⟨gK, 0, none⟩) K.length cK ∧ y = .pointer (some ⟨b, 0, none⟩) ∧ z = .int .i64 s ∧ Hid ((K.length : Int) = 9 ∧ Small K) ∧ Hid ((0 ≤ q ∧ q ≤ 3) ∧ (q = 3 ∨ f = 0) ∧ (f = 0 ∨ f = m ∨ f = m.tdiv 2)) ∧ Hid (0 ≤ s ∧ s < 4) ∧ Hid (St W W.heap.size a0 cap xs [.two b (.int .i64 q) (.int .i64 f), .pix gK cK K, .box pb (.int .i64 c) (.int .i64 h) (.int .i64 m) (.slice (some ⟨g, 0, none⟩) L.length L.length), .pix g L.length L] wx))
  case first =>
    haveI : Nonempty (In (B4 pb (.int .i64 c) (.int .i64 h) (.int .i64 m) (.slice (some ⟨g, 0, none⟩) L.length L.length))) := ⟨⟨_, hS.out.en.box pb (by simp)⟩⟩
    have c0 : ∀ s : In (B4 pb (.int .i64 c) (.int .i64 h) (.int .i64 m) (.slice (some ⟨g, 0, none⟩) L.length L.length)), s.w.cell? ⟨pb, 0, none⟩ = some (.int .i64 c) := fun s => s.h.1
    have c1 : ∀ s : In (B4 pb (.int .i64 c) (.int .i64 h) (.int .i64 m) (.slice (some ⟨g, 0, none⟩) L.length L.length)), s.w.cell? ⟨pb, 1, none⟩ = some (.int .i64 h) := fun s => s.h.2.1
    have c2 : ∀ s : In (B4 pb (.int .i64 c) (.int .i64 h) (.int .i64 m) (.slice (some ⟨g, 0, none⟩) L.length L.length)), s.w.cell? ⟨pb, 2, none⟩ = some (.int .i64 m) := fun s => s.h.2.2.1
    have c3 : ∀ s : In (B4 pb (.int .i64 c) (.int .i64 h) (.int .i64 m) (.slice (some ⟨g, 0, none⟩) L.length L.length)), s.w.cell? ⟨pb, 3, none⟩ = some (.slice (some ⟨g, 0, none⟩) L.length L.length) := fun s => s.h.2.2.2
    refine wp_region_noPanic ?_
    refine wp_region_held_drew (S := InW (B4 pb (.int .i64 c) (.int .i64 h) (.int .i64 m) (.slice (some ⟨g, 0, none⟩) L.length L.length))) (by kernel_rfl) ⟨⟨World.drew _, hS.out.drewn.en.box pb (by simp)⟩, rfl⟩ (fun hHeld => ?_)
    replace hS := Lib.hid hS.out.drewn
    obtain ⟨wd, ewd⟩ : ∃ wd, World.drew w3 = wd := ⟨_, rfl⟩
    rw [ewd] at hS hHeld
    simp only [ewd]
    clear ewd
    refine held_run 1 0 11 rfl (by decide) (by kernel_rfl) (by kernel_rfl) (by kernel_rfl) (fun _ _ _ _ _ h => h) hHeld ?_
    simp only [List.take_succ_cons, List.take_zero, List.drop_succ_cons, List.drop_zero]
    repeat (go_big_quiet_step (fail))
    refine wpQuiet_nil ?_
    (try simp only [Act.put, List.setIfInBounds_toArray, List.set_cons_zero, List.set_cons_succ])
    refine held_run 3 2 8 rfl (by decide) (by kernel_rfl) (by kernel_rfl) (by kernel_rfl) (fun _ _ _ _ _ h => h) hHeld ?_
    simp only [List.take_succ_cons, List.take_zero, List.drop_succ_cons, List.drop_zero]
    repeat (go_big_quiet_step (fail))
    refine wpQuiet_nil ?_
    (try simp only [Act.put, List.setIfInBounds_toArray, List.set_cons_zero, List.set_cons_succ])
    refine held_run 1 6 7 rfl (by decide) (by kernel_rfl) (by kernel_rfl) (by kernel_rfl) (fun _ _ _ _ _ h => h) hHeld ?_
    simp only [List.take_succ_cons, List.take_zero, List.drop_succ_cons, List.drop_zero]
    repeat (go_big_quiet_step (fail))
    refine wpQuiet_nil ?_
    (try simp only [Act.put, List.setIfInBounds_toArray, List.set_cons_zero, List.set_cons_succ])
    refine wpAnyH_ready (rs := [1, 8]) (by kernel_rfl) (by simp) (AllReadyH.cons rfl (fun KQ hKQ => ?_) (AllReadyH.cons rfl (fun KQ hKQ => ?_) AllReadyH.nil))
    · go_simp
      go_at_call 10
      refine (weights_some W W.heap.size a0 cap xs 9 _ hS.out.tape hS.out.below.size (by omega)).mono ?_; intro e wo1 hpost
      obtain ⟨gK, cK, K, rfl, hK, hKs, hP, hT, hg⟩ := wt_row hpost (by omega)
      replace hS := Lib.hid (hS.out.drawn hP hT hg)
      have HK := Lib.hid (And.intro hK hKs)
      clear hpost hP hT hg hK hKs
      go_wp2_with fail
      refine hKQ.out _ _ ⟨⟨_, hS.out.en.box pb (by simp)⟩, rfl⟩ (fun hHeld2 => ?_)
      clear hKQ KQ hHeld
      have hHeld := hHeld2
      clear hHeld2
      (try simp only [Act.put, List.setIfInBounds_toArray, List.set_cons_zero, List.set_cons_succ])
      refine wpAnyH_ready (rs := [5, 8]) (by kernel_rfl) (by simp) (AllReadyH.cons rfl (fun KQ hKQ => ?_) (AllReadyH.cons rfl (fun KQ hKQ => ?_) AllReadyH.nil))
      · go_simp
        go_at_call 16
        refine (edge_tape W W.heap.size a0 cap xs m _ hS.out.tape HM.out.1 HM.out.2).mono ?_; rintro e wo5 ⟨q, f, rfl, hq1, hq2, hq3, hT, hg⟩
        replace hS := Lib.hid (hS.out.draw hT hg)
        have HE := Lib.hid (And.intro hq1 (And.intro hq2 hq3))
        clear hT hg hq1 hq2 hq3
        go_wp2_with fail
        refine hKQ.out _ _ ⟨⟨_, hS.out.en.box pb (by simp)⟩, rfl⟩ (fun hHeld2 => ?_)
        clear hKQ KQ hHeld
        have hHeld := hHeld2
        clear hHeld2
        (try simp only [Act.put, List.setIfInBounds_toArray, List.set_cons_zero, List.set_cons_succ])
        refine wpAnyH_ready (rs := [7, 8]) (by kernel_rfl) (by simp) (AllReadyH.cons rfl (fun KQ hKQ => ?_) (AllReadyH.cons rfl (fun KQ hKQ => ?_) AllReadyH.nil))
        · go_simp
          go_at_call 9
          refine (next_some W W.heap.size a0 cap xs _ _ hS.out.tape (by omega) (by omega)).mono ?_; rintro e wo7 ⟨s, rfl, hs4, hT, hg⟩
          replace hS := Lib.hid (hS.out.draw hT hg)
          have HS4 := Lib.hid hs4
          clear hT hg hs4
          go_wp2_with fail
          refine hKQ.out _ _ ⟨⟨_, hS.out.en.box pb (by simp)⟩, rfl⟩ (fun hHeld2 => ?_)
          clear hKQ KQ hHeld
          have hHeld := hHeld2
          clear hHeld2
          (try simp only [Act.put, List.setIfInBounds_toArray, List.set_cons_zero, List.set_cons_succ])
          refine wpAnyH_ready (rs := [8]) (by kernel_rfl) (by simp) (AllReadyH.cons rfl (fun KQ hKQ => ?_) AllReadyH.nil)
          go_simp
          go_wp2_with fail
          have hSn := hS.out.new2 (.int .i64 0) (.int .i64 0) 38
          obtain ⟨b, eb⟩ : ∃ x, wo7.heap.size = x := ⟨_, rfl⟩
          obtain ⟨wo8, ew⟩ : ∃ x, wo7.alloc (.cells #[.int .i64 0, .int .i64 0] 38) = x := ⟨_, rfl⟩
          rw [ew, eb] at hSn
          simp only [ew, eb]
          replace hS := Lib.hid hSn
          clear hSn ew eb
          refine hKQ.out _ _ ⟨⟨_, hS.out.en.box pb (by simp)⟩, rfl⟩ (fun hHeld2 => ?_)
          clear hKQ KQ hHeld
          have hHeld := hHeld2
          clear hHeld2
          (try simp only [Act.put, List.setIfInBounds_toArray, List.set_cons_zero, List.set_cons_succ])
          refine held_run 1 9 2 rfl (by decide) (by kernel_rfl) (by kernel_rfl) (by kernel_rfl) (fun _ _ _ _ _ h => h) hHeld ?_
          simp only [List.take_succ_cons, List.take_zero, List.drop_succ_cons, List.drop_zero]
          repeat (go_big_quiet_step (fail))
          refine wpQuiet_nil ?_
          (try simp only [Act.put, List.setIfInBounds_toArray, List.set_cons_zero, List.set_cons_succ])
          refine wpAnyH_ready (rs := [10]) (by kernel_rfl) (by simp) (AllReadyH.cons rfl (fun KQ hKQ => ?_) AllReadyH.nil)
          obtain ⟨⟨z0, z1⟩, y0, y1⟩ := (show Box2 _ _ _ _ from hS.out.en.ok _ (List.mem_cons_self ..))
          have hSn := hS.out.set2 (.int .i64 q) (.int .i64 f)
          go_simp
          (try go_wp2_with fail)
          obtain ⟨wo10, ew⟩ : ∃ x, (wo8.setCell ⟨b, 0, none⟩ (.int .i64 q)).setCell ⟨b, 1, none⟩ (.int .i64 f) = x := ⟨_, rfl⟩
          rw [ew] at hSn
          simp only [ew]
          replace hS := Lib.hid hSn
          clear hSn ew z0 z1 y0 y1
          refine hKQ.out _ _ ⟨⟨_, hS.out.en.box pb (by simp)⟩, rfl⟩ (fun hHeld2 => ?_)
          clear hKQ KQ hHeld
          have hHeld := hHeld2
          clear hHeld2
          (try simp only [Act.put, List.setIfInBounds_toArray, List.set_cons_zero, List.set_cons_succ])
          refine held_run 1 11 0 rfl (by decide) (by kernel_rfl) (by kernel_rfl) (by kernel_rfl) (fun _ _ _ _ _ h => h) hHeld ?_
          simp only [List.take_succ_cons, List.take_zero, List.drop_succ_cons, List.drop_zero]
          repeat (go_big_quiet_step (fail))
          refine wpQuiet_nil ?_
          (try simp only [Act.put, List.setIfInBounds_toArray, List.set_cons_zero, List.set_cons_succ])
          refine wpAnyH_done (by kernel_rfl) ?_ _
          refine NoPanic.normal ?_
          replace hS := Lib.hid (hS.out.pull 1 rfl rfl)
          replace hS := Lib.hid (hS.out.pull 1 rfl rfl)
          go_wp2_with fail
          go_meet
          exact ⟨b, gK, cK, K, q, f, s, rfl, rfl, rfl, HK, HE, HS4, hS⟩
        · go_simp
          go_wp2_with fail
          have hSn := hS.out.new2 (.int .i64 0) (.int .i64 0) 38
          obtain ⟨b, eb⟩ : ∃ x, wo5.heap.size = x := ⟨_, rfl⟩
          obtain ⟨wo8, ew⟩ : ∃ x, wo5.alloc (.cells #[.int .i64 0, .int .i64 0] 38) = x := ⟨_, rfl⟩
          rw [ew, eb] at hSn
          simp only [ew, eb]
          replace hS := Lib.hid hSn
          clear hSn ew eb
          refine hKQ.out _ _ ⟨⟨_, hS.out.en.box pb (by simp)⟩, rfl⟩ (fun hHeld2 => ?_)
          clear hKQ KQ hHeld
          have hHeld := hHeld2
          clear hHeld2
          (try simp only [Act.put, List.setIfInBounds_toArray, List.set_cons_zero, List.set_cons_succ])
          refine wpAnyH_ready (rs := [7]) (by kernel_rfl) (by simp) (AllReadyH.cons rfl (fun KQ hKQ => ?_) AllReadyH.nil)
          go_simp
          go_at_call 9
          refine (next_some W W.heap.size a0 cap xs _ _ hS.out.tape (by omega) (by omega)).mono ?_; rintro e wo7 ⟨s, rfl, hs4, hT, hg⟩
          replace hS := Lib.hid (hS.out.draw hT hg)
          have HS4 := Lib.hid hs4
          clear hT hg hs4
          go_wp2_with fail
          refine hKQ.out _ _ ⟨⟨_, hS.out.en.box pb (by simp)⟩, rfl⟩ (fun hHeld2 => ?_)
          clear hKQ KQ hHeld
          have hHeld := hHeld2
          clear hHeld2
          (try simp only [Act.put, List.setIfInBounds_toArray, List.set_cons_zero, List.set_cons_succ])
          refine held_run 1 9 2 rfl (by decide) (by kernel_rfl) (by kernel_rfl) (by kernel_rfl) (fun _ _ _ _ _ h => h) hHeld ?_
          simp only [List.take_succ_cons, List.take_zero, List.drop_succ_cons, List.drop_zero]
          repeat (go_big_quiet_step (fail))
          refine wpQuiet_nil ?_
          (try simp only [Act.put, List.setIfInBounds_toArray, List.set_cons_zero, List.set_cons_succ])
          refine wpAnyH_ready (rs := [10]) (by kernel_rfl) (by simp) (AllReadyH.cons rfl (fun KQ hKQ => ?_) AllReadyH.nil)
          obtain ⟨⟨z0, z1⟩, y0, y1⟩ := (show Box2 _ _ _ _ from hS.out.en.ok _ (List.mem_cons_self ..))
          have hSn := hS.out.set2 (.int .i64 q) (.int .i64 f)
          go_simp
          (try go_wp2_with fail)
          obtain ⟨wo10, ew⟩ : ∃ x, (wo7.setCell ⟨b, 0, none⟩ (.int .i64 q)).setCell ⟨b, 1, none⟩ (.int .i64 f) = x := ⟨_, rfl⟩
          rw [ew] at hSn
          simp only [ew]
          replace hS := Lib.hid hSn
          clear hSn ew z0 z1 y0 y1
          refine hKQ.out _ _ ⟨⟨_, hS.out.en.box pb (by simp)⟩, rfl⟩ (fun hHeld2 => ?_)
          clear hKQ KQ hHeld
          have hHeld := hHeld2
          clear hHeld2
          (try simp only [Act.put, List.setIfInBounds_toArray, List.set_cons_zero, List.set_cons_succ])
          refine held_run 1 11 0 rfl (by decide) (by kernel_rfl) (by kernel_rfl) (by kernel_rfl) (fun _ _ _ _ _ h => h) hHeld ?_
          simp only [List.take_succ_cons, List.take_zero, List.drop_succ_cons, List.drop_zero]
          repeat (go_big_quiet_step (fail))
          refine wpQuiet_nil ?_
          (try simp only [Act.put, List.setIfInBounds_toArray, List.set_cons_zero, List.set_cons_succ])
          refine wpAnyH_done (by kernel_rfl) ?_ _
          refine NoPanic.normal ?_
          replace hS := Lib.hid (hS.out.pull 1 rfl rfl)
          replace hS := Lib.hid (hS.out.pull 1 rfl rfl)
          go_wp2_with fail
          go_meet
          exact ⟨b, gK, cK, K, q, f, s, rfl, rfl, rfl, HK, HE, HS4, hS⟩
      · go_simp
        go_wp2_with fail
        have hSn := hS.out.new2 (.int .i64 0) (.int .i64 0) 38
        obtain ⟨b, eb⟩ : ∃ x, wo1.heap.size = x := ⟨_, rfl⟩
        obtain ⟨wo8, ew⟩ : ∃ x, wo1.alloc (.cells #[.int .i64 0, .int .i64 0] 38) = x := ⟨_, rfl⟩
        rw [ew, eb] at hSn
        simp only [ew, eb]
        replace hS := Lib.hid hSn
        clear hSn ew eb
        refine hKQ.out _ _ ⟨⟨_, hS.out.en.box pb (by simp)⟩, rfl⟩ (fun hHeld2 => ?_)
        clear hKQ KQ hHeld
        have hHeld := hHeld2
        clear hHeld2
        (try simp only [Act.put, List.setIfInBounds_toArray, List.set_cons_zero, List.set_cons_succ])
        refine wpAnyH_ready (rs := [5]) (by kernel_rfl) (by simp) (AllReadyH.cons rfl (fun KQ hKQ => ?_) AllReadyH.nil)
        go_simp
        go_at_call 16
        refine (edge_tape W W.heap.size a0 cap xs m _ hS.out.tape HM.out.1 HM.out.2).mono ?_; rintro e wo5 ⟨q, f, rfl, hq1, hq2, hq3, hT, hg⟩
        replace hS := Lib.hid (hS.out.draw hT hg)
        have HE := Lib.hid (And.intro hq1 (And.intro hq2 hq3))
        clear hT hg hq1 hq2 hq3
        go_wp2_with fail
        refine hKQ.out _ _ ⟨⟨_, hS.out.en.box pb (by simp)⟩, rfl⟩ (fun hHeld2 => ?_)
        clear hKQ KQ hHeld
        have hHeld := hHeld2
        clear hHeld2
        (try simp only [Act.put, List.setIfInBounds_toArray, List.set_cons_zero, List.set_cons_succ])
        refine wpAnyH_ready (rs := [7]) (by kernel_rfl) (by simp) (AllReadyH.cons rfl (fun KQ hKQ => ?_) AllReadyH.nil)
        go_simp
        go_at_call 9
        refine (next_some W W.heap.size a0 cap xs _ _ hS.out.tape (by omega) (by omega)).mono ?_; rintro e wo7 ⟨s, rfl, hs4, hT, hg⟩
        replace hS := Lib.hid (hS.out.draw hT hg)
        have HS4 := Lib.hid hs4
        clear hT hg hs4
        go_wp2_with fail
        refine hKQ.out _ _ ⟨⟨_, hS.out.en.box pb (by simp)⟩, rfl⟩ (fun hHeld2 => ?_)
        clear hKQ KQ hHeld
        have hHeld := hHeld2
        clear hHeld2
        (try simp only [Act.put, List.setIfInBounds_toArray, List.set_cons_zero, List.set_cons_succ])
        refine held_run 1 9 2 rfl (by decide) (by kernel_rfl) (by kernel_rfl) (by kernel_rfl) (fun _ _ _ _ _ h => h) hHeld ?_
        simp only [List.take_succ_cons, List.take_zero, List.drop_succ_cons, List.drop_zero]
        repeat (go_big_quiet_step (fail))
        refine wpQuiet_nil ?_
        (try simp only [Act.put, List.setIfInBounds_toArray, List.set_cons_zero, List.set_cons_succ])
        refine wpAnyH_ready (rs := [10]) (by kernel_rfl) (by simp) (AllReadyH.cons rfl (fun KQ hKQ => ?_) AllReadyH.nil)
        obtain ⟨⟨z0, z1⟩, y0, y1⟩ := (show Box2 _ _ _ _ from hS.out.en.ok _ (List.mem_cons_self ..))
        have hSn := hS.out.set2 (.int .i64 q) (.int .i64 f)
        go_simp
        (try go_wp2_with fail)
        obtain ⟨wo10, ew⟩ : ∃ x, (wo7.setCell ⟨b, 0, none⟩ (.int .i64 q)).setCell ⟨b, 1, none⟩ (.int .i64 f) = x := ⟨_, rfl⟩
        rw [ew] at hSn
        simp only [ew]
        replace hS := Lib.hid hSn
        clear hSn ew z0 z1 y0 y1
        refine hKQ.out _ _ ⟨⟨_, hS.out.en.box pb (by simp)⟩, rfl⟩ (fun hHeld2 => ?_)
        clear hKQ KQ hHeld
        have hHeld := hHeld2
        clear hHeld2
        (try simp only [Act.put, List.setIfInBounds_toArray, List.set_cons_zero, List.set_cons_succ])
        refine held_run 1 11 0 rfl (by decide) (by kernel_rfl) (by kernel_rfl) (by kernel_rfl) (fun _ _ _ _ _ h => h) hHeld ?_
        simp only [List.take_succ_cons, List.take_zero, List.drop_succ_cons, List.drop_zero]
        repeat (go_big_quiet_step (fail))
        refine wpQuiet_nil ?_
        (try simp only [Act.put, List.setIfInBounds_toArray, List.set_cons_zero, List.set_cons_succ])
        refine wpAnyH_done (by kernel_rfl) ?_ _
        refine NoPanic.normal ?_
        replace hS := Lib.hid (hS.out.pull 1 rfl rfl)
        replace hS := Lib.hid (hS.out.pull 1 rfl rfl)
        go_wp2_with fail
        go_meet
        exact ⟨b, gK, cK, K, q, f, s, rfl, rfl, rfl, HK, HE, HS4, hS⟩
    · go_simp
      go_wp2_with fail
      have hSn := hS.out.new2 (.int .i64 0) (.int .i64 0) 38
      obtain ⟨b, eb⟩ : ∃ x, wd.heap.size = x := ⟨_, rfl⟩
      obtain ⟨wo8, ew⟩ : ∃ x, wd.alloc (.cells #[.int .i64 0, .int .i64 0] 38) = x := ⟨_, rfl⟩
      rw [ew, eb] at hSn
      simp only [ew, eb]
      replace hS := Lib.hid hSn
      clear hSn ew eb
      refine hKQ.out _ _ ⟨⟨_, hS.out.en.box pb (by simp)⟩, rfl⟩ (fun hHeld2 => ?_)
      clear hKQ KQ hHeld
      have hHeld := hHeld2
      clear hHeld2
      (try simp only [Act.put, List.setIfInBounds_toArray, List.set_cons_zero, List.set_cons_succ])
      refine wpAnyH_ready (rs := [1]) (by kernel_rfl) (by simp) (AllReadyH.cons rfl (fun KQ hKQ => ?_) AllReadyH.nil)
      go_simp
      go_at_call 10
      refine (weights_some W W.heap.size a0 cap xs 9 _ hS.out.tape hS.out.below.size (by omega)).mono ?_; intro e wo1 hpost
      obtain ⟨gK, cK, K, rfl, hK, hKs, hP, hT, hg⟩ := wt_row hpost (by omega)
      replace hS := Lib.hid (hS.out.drawn hP hT hg)
      have HK := Lib.hid (And.intro hK hKs)
      clear hpost hP hT hg hK hKs
      go_wp2_with fail
      refine hKQ.out _ _ ⟨⟨_, hS.out.en.box pb (by simp)⟩, rfl⟩ (fun hHeld2 => ?_)
      clear hKQ KQ hHeld
      have hHeld := hHeld2
      clear hHeld2
      (try simp only [Act.put, List.setIfInBounds_toArray, List.set_cons_zero, List.set_cons_succ])
      refine wpAnyH_ready (rs := [5]) (by kernel_rfl) (by simp) (AllReadyH.cons rfl (fun KQ hKQ => ?_) AllReadyH.nil)
      go_simp
      go_at_call 16
      refine (edge_tape W W.heap.size a0 cap xs m _ hS.out.tape HM.out.1 HM.out.2).mono ?_; rintro e wo5 ⟨q, f, rfl, hq1, hq2, hq3, hT, hg⟩
      replace hS := Lib.hid (hS.out.draw hT hg)
      have HE := Lib.hid (And.intro hq1 (And.intro hq2 hq3))
      clear hT hg hq1 hq2 hq3
      go_wp2_with fail
      refine hKQ.out _ _ ⟨⟨_, hS.out.en.box pb (by simp)⟩, rfl⟩ (fun hHeld2 => ?_)
      clear hKQ KQ hHeld
      have hHeld := hHeld2
      clear hHeld2
      (try simp only [Act.put, List.setIfInBounds_toArray, List.set_cons_zero, List.set_cons_succ])
      refine wpAnyH_ready (rs := [7]) (by kernel_rfl) (by simp) (AllReadyH.cons rfl (fun KQ hKQ => ?_) AllReadyH.nil)
      go_simp
      go_at_call 9
      refine (next_some W W.heap.size a0 cap xs _ _ hS.out.tape (by omega) (by omega)).mono ?_; rintro e wo7 ⟨s, rfl, hs4, hT, hg⟩
      replace hS := Lib.hid (hS.out.draw hT hg)
      have HS4 := Lib.hid hs4
      clear hT hg hs4
      go_wp2_with fail
      refine hKQ.out _ _ ⟨⟨_, hS.out.en.box pb (by simp)⟩, rfl⟩ (fun hHeld2 => ?_)
      clear hKQ KQ hHeld
      have hHeld := hHeld2
      clear hHeld2
      (try simp only [Act.put, List.setIfInBounds_toArray, List.set_cons_zero, List.set_cons_succ])
      refine held_run 1 9 2 rfl (by decide) (by kernel_rfl) (by kernel_rfl) (by kernel_rfl) (fun _ _ _ _ _ h => h) hHeld ?_
      simp only [List.take_succ_cons, List.take_zero, List.drop_succ_cons, List.drop_zero]
      repeat (go_big_quiet_step (fail))
      refine wpQuiet_nil ?_
      (try simp only [Act.put, List.setIfInBounds_toArray, List.set_cons_zero, List.set_cons_succ])
      refine wpAnyH_ready (rs := [10]) (by kernel_rfl) (by simp) (AllReadyH.cons rfl (fun KQ hKQ => ?_) AllReadyH.nil)
      replace hS := Lib.hid (hS.out.pull 1 rfl rfl)
      obtain ⟨⟨z0, z1⟩, y0, y1⟩ := (show Box2 _ _ _ _ from hS.out.en.ok _ (List.mem_cons_self ..))
      have hSn := hS.out.set2 (.int .i64 q) (.int .i64 f)
      go_simp
      (try go_wp2_with fail)
      obtain ⟨wo10, ew⟩ : ∃ x, (wo7.setCell ⟨b, 0, none⟩ (.int .i64 q)).setCell ⟨b, 1, none⟩ (.int .i64 f) = x := ⟨_, rfl⟩
      rw [ew] at hSn
      simp only [ew]
      replace hS := Lib.hid hSn
      clear hSn ew z0 z1 y0 y1
      refine hKQ.out _ _ ⟨⟨_, hS.out.en.box pb (by simp)⟩, rfl⟩ (fun hHeld2 => ?_)
      clear hKQ KQ hHeld
      have hHeld := hHeld2
      clear hHeld2
      (try simp only [Act.put, List.setIfInBounds_toArray, List.set_cons_zero, List.set_cons_succ])
      refine held_run 1 11 0 rfl (by decide) (by kernel_rfl) (by kernel_rfl) (by kernel_rfl) (fun _ _ _ _ _ h => h) hHeld ?_
      simp only [List.take_succ_cons, List.take_zero, List.drop_succ_cons, List.drop_zero]
      repeat (go_big_quiet_step (fail))
      refine wpQuiet_nil ?_
      (try simp only [Act.put, List.setIfInBounds_toArray, List.set_cons_zero, List.set_cons_succ])
      refine wpAnyH_done (by kernel_rfl) ?_ _
      refine NoPanic.normal ?_
      replace hS := Lib.hid (hS.out.pull 1 rfl rfl)
      replace hS := Lib.hid (hS.out.pull 1 rfl rfl)
      go_wp2_with fail
      go_meet
      exact ⟨b, gK, cK, K, q, f, s, rfl, rfl, rfl, HK, HE, HS4, hS⟩
  case rest =>
    clear hS
    obtain ⟨b, gK, cK, K, q, f, s, rfl, rfl, rfl, HK, HE, HS4, hS⟩ := hcut
    have hL4 := plane_len hv'.out
    have hsz := (sizeB_t.1 (planeB_t.1 hv'.out).1).2.2.2
    have hed : edgeB q f m = true := by
      have h1 := HE.out
      have h2 : m.tdiv 2 = m / 2 := Int.tdiv_eq_ediv_of_nonneg (by omega)
      rw [h2] at h1
      exact edgeB_t.2 (by omega)
    have hck : checkC m 3 3 K s 255 = 0 := small_check (by omega) (by decide) (by decide) (by rw [HK.out.1]; decide) HK.out.2 (by have := HS4.out; omega) (by decide)
    have HED := Lib.hid hed
    have HCK := Lib.hid hck
    have HL4 := Lib.hid hL4
    clear hed hck hL4 hsz hm HK HE HS4
    obtain ⟨p0, p1, p2, p3⟩ := hS.out.en.box pb (v0 := .int .i64 c) (v1 := .int .i64 h) (v2 := .int .i64 m) (v3 := .slice (some ⟨g, 0, none⟩) L.length L.length) (by simp)
    go_wp2_with fail
    refine (within_some W W.heap.size a0 cap xs c h _ hS.out.tape (by omega) (by omega) (by omega) (by omega)).mono ?_; rintro e w4 ⟨x0, y0, x1, y1, rfl, hx, hy, hT, hg⟩
    have HX := Lib.hid hx
    have HY := Lib.hid hy
    have hS1 := (hS.out.draw hT hg).new (.int .i64 x0) (.int .i64 y0) (.int .i64 x1) (.int .i64 y1) 33
    obtain ⟨rb, erb⟩ : ∃ x, w4.heap.size = x := ⟨_, rfl⟩
    obtain ⟨w5, ew5⟩ : ∃ x, w4.alloc (.cells #[.int .i64 x0, .int .i64 y0, .int .i64 x1, .int .i64 y1] 33) = x := ⟨_, rfl⟩
    rw [erb, ew5] at hS1
    replace hS := Lib.hid hS1
    clear hT hg hx hy hS1 p0 p1 p2 p3
    go_upto_region 5 with fail
    (try simp only [erb, ew5])
    clear erb ew5
    obtain ⟨C, eC⟩ : ∃ C, convL c h L q f 3 3 K s 255 0 0 c h = C := ⟨_, rfl⟩
    obtain ⟨n, en⟩ : ∃ n, C.length = n := ⟨_, rfl⟩
    have EC := Lib.hid eC
    have EN := Lib.hid en
    clear eC en
    obtain ⟨p0, p1, p2, p3⟩ := hS.out.en.box pb (v0 := .int .i64 c) (v1 := .int .i64 h) (v2 := .int .i64 m) (v3 := .slice (some ⟨g, 0, none⟩) L.length L.length) (by simp)
    obtain ⟨e0, e1⟩ := hS.out.en.two b (v0 := .int .i64 q) (v1 := .int .i64 f) (by simp)
    go_wp2_with fail
    refine (ctile_v hv'.out HED.out HCK.out (by omega) (by omega) (Int.sub_zero c) (Int.sub_zero h) EC.out EN.out rfl rfl _ _ _ _ _ (hS.out.en.isS g L.length (by simp)) (hS.out.en.isS gK cK (by simp))).mono ?_; rintro e w6 ⟨g1, c1, rfl, hP, hb⟩
    have hS1 := (hS.out.made hP hb).new (.int .i64 c) (.int .i64 h) (.int .i64 255) (.slice (some ⟨g1, 0, none⟩) n c1) 35
    obtain ⟨xb, exb⟩ : ∃ x, w6.heap.size = x := ⟨_, rfl⟩
    obtain ⟨w7, ew7⟩ : ∃ x, w6.alloc (.cells #[.int .i64 c, .int .i64 h, .int .i64 255, .slice (some ⟨g1, 0, none⟩) n c1] 35) = x := ⟨_, rfl⟩
    rw [exb, ew7] at hS1
    replace hS := Lib.hid hS1
    clear hP hb hS1 p0 p1 p2 p3 e0 e1
    go_upto_region 6 with fail
    (try simp only [exb, ew7])
    clear exb ew7
    obtain ⟨D, eD⟩ : ∃ D, convL c h L q f 3 3 K s 255 x0 y0 x1 y1 = D := ⟨_, rfl⟩
    obtain ⟨n2, en2⟩ : ∃ n, D.length = n := ⟨_, rfl⟩
    obtain ⟨cw, ecw⟩ : ∃ z, x1 - x0 = z := ⟨_, rfl⟩
    obtain ⟨ch, ech⟩ : ∃ z, y1 - y0 = z := ⟨_, rfl⟩
    have HCR := Lib.hid (show cropO c h 255 C x0 y0 x1 y1 = some D by
      rw [← EC.out, ← eD]; exact conv_crop hv'.out (by decide) HX.out HY.out)
    have hn4 := Lib.hid (show n ≤ 4096 by
      have h1 := conv_plane (q := q) (f := f) (kw := 3) (kh := 3) (K := K) (s := s) (out := 255) hv'.out (by decide)
      rw [EC.out] at h1
      have := plane_len h1
      rw [EN.out] at this; exact this)
    have hn5 := Lib.hid (show n2 ≤ 4096 by
      have h1 := crop_ok (conv_plane (q := q) (f := f) (kw := 3) (kh := 3) (K := K) (s := s) (out := 255) hv'.out (by decide)) HX.out HY.out
      have h2 := crop_plane h1
      have h3 := HCR.out
      rw [crop_some (by rw [EC.out] at h1; exact h1)] at h3
      rw [EC.out, Option.some.inj h3] at h2
      have := plane_len h2
      rw [en2] at this; exact this)
    have ED := Lib.hid eD
    have EN2 := Lib.hid en2
    have ECW := Lib.hid ecw
    have ECH := Lib.hid ech
    clear eD en2 ecw ech
    obtain ⟨p0, p1, p2, p3⟩ := hS.out.en.box pb (v0 := .int .i64 c) (v1 := .int .i64 h) (v2 := .int .i64 m) (v3 := .slice (some ⟨g, 0, none⟩) L.length L.length) (by simp)
    obtain ⟨e0, e1⟩ := hS.out.en.two b (v0 := .int .i64 q) (v1 := .int .i64 f) (by simp)
    obtain ⟨r0, r1, r2, r3⟩ := hS.out.en.box rb (v0 := .int .i64 x0) (v1 := .int .i64 y0) (v2 := .int .i64 x1) (v3 := .int .i64 y1) (by simp)
    go_wp2_with fail
    refine (ctile_v hv'.out HED.out HCK.out HX.out HY.out ECW.out ECH.out ED.out EN2.out rfl rfl _ _ _ _ _ (hS.out.en.isS g L.length (by simp)) (hS.out.en.isS gK cK (by simp))).mono ?_; rintro e w8 ⟨g2, c2, rfl, hP, hb⟩
    have hS1 := (hS.out.made hP hb).new (.int .i64 cw) (.int .i64 ch) (.int .i64 255) (.slice (some ⟨g2, 0, none⟩) n2 c2) 35
    obtain ⟨yb, eyb⟩ : ∃ x, w8.heap.size = x := ⟨_, rfl⟩
    obtain ⟨w9, ew9⟩ : ∃ x, w8.alloc (.cells #[.int .i64 cw, .int .i64 ch, .int .i64 255, .slice (some ⟨g2, 0, none⟩) n2 c2] 35) = x := ⟨_, rfl⟩
    rw [eyb, ew9] at hS1
    replace hS := Lib.hid hS1
    clear hP hb hS1 p0 p1 p2 p3 e0 e1 r0 r1 r2 r3
    go_upto_region 7 with fail
    (try simp only [eyb, ew9])
    clear eyb ew9
    obtain ⟨r0, r1, r2, r3⟩ := hS.out.en.box rb (v0 := .int .i64 x0) (v1 := .int .i64 y0) (v2 := .int .i64 x1) (v3 := .int .i64 y1) (by simp)
    obtain ⟨p0, p1, p2, p3⟩ := hS.out.en.box xb (v0 := .int .i64 c) (v1 := .int .i64 h) (v2 := .int .i64 255) (v3 := .slice (some ⟨g1, 0, none⟩) n c1) (by simp)
    go_wp2_with fail
    refine (rcrop_v HCR.out ECW.out ECH.out EN2.out EN.out (by have := hn4.out; omega) _ _ _ (hS.out.en.isS g1 c1 (by simp))).mono ?_; rintro e w10 ⟨g3, c3, rfl, hP, hb⟩
    have hS1 := (hS.out.made hP hb).new (.int .i64 cw) (.int .i64 ch) (.int .i64 255) (.slice (some ⟨g3, 0, none⟩) n2 c3) 35
    obtain ⟨zb, ezb⟩ : ∃ x, w10.heap.size = x := ⟨_, rfl⟩
    obtain ⟨w11, ew11⟩ : ∃ x, w10.alloc (.cells #[.int .i64 cw, .int .i64 ch, .int .i64 255, .slice (some ⟨g3, 0, none⟩) n2 c3] 35) = x := ⟨_, rfl⟩
    rw [ezb, ew11] at hS1
    replace hS := Lib.hid hS1
    clear hP hb hS1 p0 p1 p2 p3 r0 r1 r2 r3
    go_upto_region 8 with fail
    (try simp only [ezb, ew11])
    clear ezb ew11
    obtain ⟨p0, p1, p2, p3⟩ := hS.out.en.box yb (v0 := .int .i64 cw) (v1 := .int .i64 ch) (v2 := .int .i64 255) (v3 := .slice (some ⟨g2, 0, none⟩) n2 c2) (by simp)
    obtain ⟨r0, r1, r2, r3⟩ := hS.out.en.box zb (v0 := .int .i64 cw) (v1 := .int .i64 ch) (v2 := .int .i64 255) (v3 := .slice (some ⟨g3, 0, none⟩) n2 c3) (by simp)
    go_wp2_with fail
    refine (requal_v EN2.out (by have := hn5.out; omega) _ _ _ _ _ (hS.out.en.isS g2 c2 (by simp)) (hS.out.en.isS g3 c3 (by simp))).mono ?_; rintro e w12 ⟨rfl, hb⟩
    have hB := Lib.hid (bthen hS.out.below hb)
    clear hb p0 p1 p2 p3 r0 r1 r2 r3
    go_wp2_with fail
    refine (sane_is _).mono ?_; rintro e w13 ⟨rfl, hb⟩
    have hfin := Lib.hid (bthen hB.out hb)
    clear hb
    go_wp2_with fail
    go_returns
    exact ⟨rfl, hfin.out⟩
namespace convolveCrops
theorem own : ownKnob Try.prog.godebug = none := by kernel_rfl
theorem laid : laidOutB Try.prog = true := by kernel_rfl
theorem params_ok : ∀ t ∈ Try.f5.params.toList, Try.prog.readableRec t = true ∧ t < Try.prog.types.size := by
  rw [Try.params5]
  intro t ht
  simp at ht
  subst ht
  exact ⟨by kernel_rfl, of_decide_eq_true (by kernel_rfl)⟩
set_option maxRecDepth 100000 in
theorem lifted (os : Os) (started : os.Started) (H : Type) (enc : TypeId × Value → H) :
    ReturnsInHanded {} Try.checked os 5 .any (Rows.convolveCropsSpec.pre6 enc Try.prog Try.f5 Rows.convolveCropsRow.domain false) (Rows.convolveCropsSpec.post enc Try.prog Try.f5 false true false false) := by
  refine returnsInHanded_of_change (C := Try.checked) own started (by kernel_rfl) Try.func5
    (ChangeSpec.witness6 (enc := enc) (C := Try.checked) false ⟨#[], #[.slice none 0 0], []⟩ 8 (by kernel_rfl) (by kernel_rfl) (by kernel_rfl) (by kernel_rfl)) ?_
  intro W base args ds gs before hval0 hW hcnd _
  have hval : ∀ (j : Nat) t v, Try.f5.params[j]? = some t → args[j]? = some v → Value.okWide Try.prog W .any base t v := hval0
  have hW' := hW
  obtain ⟨p, q, hA0, hV, rfl, hfz, hnd⟩ := hW
  have hA : DataW.TrodAll enc Try.prog W 0 (fun _ => true) true Try.f5.params.toList args.toList ds p := hA0
  rw [Try.params5] at hA hval
  obtain ⟨v0, vs0, d0, ds0, p0, q0, hargs, rfl, rfl, h0, r0⟩ := trodAll_cons hA
  obtain ⟨rfl, rfl, rfl⟩ := trodAll_nil r0
  obtain rfl : args = #[v0] := by cases args; simp_all
  obtain ⟨rfl, rfl⟩ := trodVars_none hV
  obtain ⟨a0, len, cap, rfl⟩ := okWide_slice Try.underlying22 (hval 0 22 v0 rfl rfl)
  obtain ⟨xs, rfl, hs, hf, hl⟩ := open_list h0
  clear hA0 hval0
  have fin : Calls Try.prog 5 #[.slice a0 xs.length cap] W (TestPost true W) := crops_walk xs a0 cap W hs hf hl
  refine fin.mono fun e W' ⟨he, hb⟩ => ?_
  subst he
  exact ⟨_, rfl, law_post laid rfl Try.underlying4 params_ok rfl hW' rfl hb⟩

theorem over : Rows.convolveCropsRow.holds Try.pinned (OpenSpec.ofChange Rows.convolveCropsSpec) :=
  OpenClaim.holds_of_wide 5 Try.f5 rfl rfl rfl rfl rfl rfl rfl ⟨rfl, rfl, rfl, rfl, rfl⟩ rfl rfl rfl rfl rfl (by kernel_rfl) Try.func5 (by kernel_rfl)
    (of_decide_eq_true (by kernel_rfl)) (by unfold Func.isWrapper; first | (rw [if_pos (by decide +kernel)]; kernel_rfl) | (rw [if_neg (by decide +kernel)]; exact ⟨rfl, rfl⟩))
    (fun os started H enc _ => lifted os started H enc)

/-- the statement -/
theorem proved : Rows.ConvolveCropsSaid := over
#print axioms proved
end convolveCrops
end Go.Proofs.Ytibmoibhbgbfoaa
