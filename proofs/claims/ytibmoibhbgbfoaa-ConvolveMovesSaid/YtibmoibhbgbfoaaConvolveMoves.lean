/- For every list of numbers and every distance the statement ConvolveMoves returns true: with wrapped borders, moving a plane cyclically moves its convolution. No condition. -/
import Derived.Test.YtibmoibhbgbfoaaCSane
import Derived.Test.YtibmoibhbgbfoaaTreeKit
import Derived.Test.YtibmoibhbgbfoaaCKit
import Derived.Test.YtibmoibhbgbfoaaCMovePlain
import Derived.Test.YtibmoibhbgbfoaaPCropPlain
namespace Go.Proofs.Ytibmoibhbgbfoaa
open Go.ChangeShapes Go.WideShapes Go.ChangeAt Go.RowKit
set_option linter.unusedVariables false
set_option linter.unusedSimpArgs false

theorem mod_to (v n : Int) (w : World) (h0 : 0 < n) (h1 : n ≤ 9223372036854775807) (h2 : -9223372036854775808 ≤ v) (h3 : v ≤ 9223372036854775807) {r : Int} (hr : v % n = r) :
    Calls Try.prog 24 #[.int .i64 v, .int .i64 n] w fun e w' => e = .returned (.int .i64 r) ∧ w = w' := by
  rw [← hr]; exact (mod_any v n w h0 h1 h2 h3).mono fun e w' h => ⟨h.1, h.2⟩
/-- what a round of the move reads -/
abbrev MvS (pb qb : Nat) (c : Int) (g l g2 c2 : Nat) (k : Nat) (v : Int) (w : World) : Prop := w.cell? ⟨pb, 0, none⟩ = some (.int .i64 c) ∧ w.cell? ⟨pb, 3, none⟩ = some (.slice (some ⟨g, 0, none⟩) l l) ∧ w.cell? ⟨qb, 3, none⟩ = some (.slice (some ⟨g2, 0, none⟩) l c2) ∧ w.cell? ⟨g, k, none⟩ = some (.int .i64 v)
set_option maxRecDepth 100000 in
set_option maxHeartbeats 8000000 in
theorem moves_walk (xs : List Int) (a0 : Option Addr) (cap : Nat) (by0 : Int) (W : World) (hby : -9223372036854775808 ≤ by0 ∧ by0 ≤ 9223372036854775807) (hs : SliceIs W a0 xs) (hf : Fits xs) (hl : xs.length ≤ 9223372036854775807) :
    Calls Try.prog 7 #[.slice a0 xs.length cap, .int .i64 by0] W (TestPost true W) := by
  have hs' := Lib.hid hs
  have hf' := Lib.hid hf
  have hl' := Lib.hid hl
  clear hs hf hl
  go_enter Try.func7, Try.ntmps7
  go_wp2_with fail
  refine (new_any a0 cap xs _ hs'.out hf'.out hl'.out).mono ?_; rintro e w1 ⟨rfl, hT⟩
  have hS := Lib.hid (St.start hT)
  obtain ⟨p, ep⟩ : ∃ x, W.heap.size = x := ⟨_, rfl⟩
  rw [ep] at hS
  (try simp only [ep])
  clear hT
  go_wp2_with fail
  (try simp only [ep])
  clear ep
  refine (plane_any W p a0 cap xs _ hS.out.tape).mono ?_; rintro e w2 ⟨c, h, hc, hh, m, g, L, rfl, hv, hm, hP, hT, hg⟩
  have hS1 := (hS.out.drawn hP hT hg).new (.int .i64 c) (.int .i64 h) (.int .i64 m) (.slice (some ⟨g, 0, none⟩) L.length L.length) 35
  obtain ⟨l, el⟩ : ∃ l, L.length = l := ⟨_, rfl⟩
  have EL := Lib.hid el
  obtain ⟨pb, epb⟩ : ∃ x, w2.heap.size = x := ⟨_, rfl⟩
  obtain ⟨w3, ew3⟩ : ∃ x, w2.alloc (.cells #[.int .i64 c, .int .i64 h, .int .i64 m, .slice (some ⟨g, 0, none⟩) l l] 35) = x := ⟨_, rfl⟩
  rw [el] at hS1 ⊢
  rw [epb, ew3] at hS1
  replace hS := Lib.hid hS1
  have hv' := Lib.hid hv
  have hl4 := plane_len hv
  have hl1 := plane_pos hv
  rw [el] at hl4 hl1
  have HL4 := Lib.hid (And.intro hl1 hl4)
  have hm0 := (sizeB_t.1 (planeB_t.1 hv).1).2.2.2
  have HM := Lib.hid (show 1 ≤ m ∧ m ≤ 65535 by omega)
  clear hP hT hg hv hm hS1 el hl4 hl1 hm0
  go_upto_region 3 with fail
  (try simp only [epb, ew3])
  clear epb ew3
  obtain ⟨p0, p1, p2, p3⟩ := hS.out.en.box pb (v0 := .int .i64 c) (v1 := .int .i64 h) (v2 := .int .i64 m) (v3 := .slice (some ⟨g, 0, none⟩) l l) (by simp)
  go_wp2_with fail
  obtain ⟨n, en⟩ : ∃ n, by0 % c = n := ⟨_, rfl⟩
  have hn : 0 ≤ n ∧ n < c := by rw [← en]; exact ⟨Int.emod_nonneg _ (by omega), Int.emod_lt_of_pos _ (by omega)⟩
  refine (mod_to by0 c _ (by omega) (by omega) hby.1 hby.2 en).mono ?_; rintro e w4 ⟨rfl, rfl⟩
  have HN := Lib.hid hn
  have HC := Lib.hid hc
  have HH := Lib.hid hh
  clear en hby
  have hcp := rcopy_any c h m L (some ⟨g, 0, none⟩) l w3 (hS.out.en.isS g l (by simp)) (by have := HL4.out; rw [EL.out]; omega) (by have := HL4.out; rw [EL.out]; omega)
  rw [EL.out] at hcp
  have HCP := Lib.hid hcp
  clear hcp hn hc hh
  go_wp2_with fail
  refine (HCP.out).mono ?_; rintro e w5 ⟨g2, c2, rfl, hP, hb⟩
  simp only [pv]
  have hS1 := (hS.out.made hP hb).new (.int .i64 c) (.int .i64 h) (.int .i64 m) (.slice (some ⟨g2, 0, none⟩) l c2) 35
  obtain ⟨qb, eqb⟩ : ∃ x, w5.heap.size = x := ⟨_, rfl⟩
  obtain ⟨w6, ew6⟩ : ∃ x, w5.alloc (.cells #[.int .i64 c, .int .i64 h, .int .i64 m, .slice (some ⟨g2, 0, none⟩) l c2] 35) = x := ⟨_, rfl⟩
  rw [eqb, ew6] at hS1
  have hS2 := hS1.pull 1 rfl rfl
  replace hS := Lib.hid hS2
  clear hP hb hS1 hS2 p0 p1 p2 p3 HCP
  go_upto_region 5 with fail
  (try simp only [eqb, ew6])
  clear eqb ew6
  go_wp2_with fail
  go_loopw [9] (fun i wr => ∃ (k : Nat) (Q : List Int), k ≤ l ∧ i = .int .i64 k ∧ Hid (MovedTo c h n L Q k) ∧ Hid (St W p a0 cap xs [.pix g2 c2 Q, .box qb (.int .i64 c) (.int .i64 h) (.int .i64 m) (.slice (some ⟨g2, 0, none⟩) l c2), .box pb (.int .i64 c) (.int .i64 h) (.int .i64 m) (.slice (some ⟨g, 0, none⟩) l l), .pix g l L] wr)) (fun i _ => l - (intOf i).toNat)
  case atStart => exact ⟨0, L, by omega, rfl, Lib.hid (moved_zero _ _ _ _ _ rfl), hS⟩
  case round =>
    clear hS
    obtain ⟨k, Q, hk, rfl, HQ, hS⟩ := hrel
    obtain ⟨p0, p1, p2, p3⟩ := hS.out.en.box pb (v0 := .int .i64 c) (v1 := .int .i64 h) (v2 := .int .i64 m) (v3 := .slice (some ⟨g, 0, none⟩) l l) (by simp)
    by_cases hlt : k < l
    · have hkI : (k : Int) < l := by omega
      have hlt' := Lib.hid hlt
      have q20 : wrap64 ((k : Int) + 1) = (k : Int) + 1 := wrap_in _ (by omega) (by have := HL4.out; omega)
      have h8 := (hS.out.en.pix g l (L := L) (by simp)).cell (k := k) (by rw [EL.out]; exact hlt)
      obtain ⟨v, ev⟩ : ∃ v, L.getD k 0 = v := ⟨_, rfl⟩
      rw [ev] at h8
      obtain ⟨q0, q1, q2, q3⟩ := hS.out.en.box qb (v0 := .int .i64 c) (v1 := .int .i64 h) (v2 := .int .i64 m) (v3 := .slice (some ⟨g2, 0, none⟩) l c2) (by simp)
      have hMv : MvS pb qb c g l g2 c2 k v wr := ⟨p0, p3, q3, h8⟩
      obtain ⟨d, r, r2, t, e, D, m1, m2, m3, m4, m5, m6, m7, m8, m9, m10, m11, m12, m13, m14⟩ := mv_wraps (n := n) (k := k) hv'.out HN.out (by rw [EL.out]; exact hlt)
      rw [EL.out] at m13
      have HQ2 := Lib.hid (show MovedTo c h n L (Q.set D v) (k + 1) by
        rw [m14, ← ev]
        exact moved_step HQ.out (by have := HC.out; omega) (planeB_t.1 hv'.out).2.1 (by rw [EL.out]; exact hlt))
      have hQl := Lib.hid (show Q.length = l by rw [HQ.out.1]; exact EL.out)
      have hc0 : ¬ c = 0 := by have := HC.out; omega
      have hc1 : (c == 0) = false := by simpa using hc0
      have M13 := Lib.hid m13
      have hDI : (D : Int) < l := by omega
      have EV := Lib.hid ev
      clear m14 ev HQ
      go_upto_region 8 with fail
      clear p0 p1 p2 p3 q0 q1 q2 q3 h8
      haveI : Nonempty (In (MvS pb qb c g l g2 c2 k v)) := ⟨⟨_, hMv⟩⟩
      have c0 : ∀ s : In (MvS pb qb c g l g2 c2 k v), s.w.cell? ⟨pb, 0, none⟩ = some (.int .i64 c) := fun s => s.h.1
      have c1 : ∀ s : In (MvS pb qb c g l g2 c2 k v), s.w.cell? ⟨pb, 3, none⟩ = some (.slice (some ⟨g, 0, none⟩) l l) := fun s => s.h.2.1
      have c2' : ∀ s : In (MvS pb qb c g l g2 c2 k v), s.w.cell? ⟨qb, 3, none⟩ = some (.slice (some ⟨g2, 0, none⟩) l c2) := fun s => s.h.2.2.1
      have c3 : ∀ s : In (MvS pb qb c g l g2 c2 k v), s.w.cell? ⟨g, k, none⟩ = some (.int .i64 v) := fun s => s.h.2.2.2
      refine wp_region_noPanic ?_
      refine wp_region_held_drew (S := InW (MvS pb qb c g l g2 c2 k v)) (by kernel_rfl) ⟨⟨World.drew _, hMv⟩, rfl⟩ (fun hHeld => ?_)
      replace hS := Lib.hid hS.out.drewn
      obtain ⟨wd, ewd⟩ : ∃ wd, World.drew wr = wd := ⟨_, rfl⟩
      rw [ewd] at hS hHeld
      simp only [ewd]
      clear ewd
      refine held_run 25 0 1 rfl (by decide) (by kernel_rfl) (by kernel_rfl) (by kernel_rfl) (fun _ _ _ _ _ h => h) hHeld ?_
      simp only [List.take_succ_cons, List.take_zero, List.drop_succ_cons, List.drop_zero]
      repeat (go_big_quiet_step (fail))
      refine wpQuiet_nil ?_
      (try simp only [Act.put, List.setIfInBounds_toArray, List.set_cons_zero, List.set_cons_succ])
      have kc := (hS.out.en.pix g2 c2 (L := Q) (by simp)).cell (k := D) (by rw [hQl.out]; exact M13.out)
      have kf := (hS.out.en.pix g2 c2 (L := Q) (by simp)).frozen D
      have hSn := hS.out.store D v
      refine wpAnyH_ready (rs := [25]) (by kernel_rfl) (by simp) (AllReadyH.cons rfl (fun KQ hKQ => ?_) AllReadyH.nil)
      go_simp
      (try go_wp2_with fail)
      obtain ⟨w7, ew7⟩ : ∃ x, wd.setCell ⟨g2, D, none⟩ (.int .i64 v) = x := ⟨_, rfl⟩
      rw [ew7] at hSn
      simp only [ew7]
      replace hS := Lib.hid hSn
      clear hSn ew7 kc kf
      have hMv2 : MvS pb qb c g l g2 c2 k v w7 := by
        obtain ⟨p0, p1, p2, p3⟩ := hS.out.en.box pb (v0 := .int .i64 c) (v1 := .int .i64 h) (v2 := .int .i64 m) (v3 := .slice (some ⟨g, 0, none⟩) l l) (by simp)
        obtain ⟨q0, q1, q2, q3⟩ := hS.out.en.box qb (v0 := .int .i64 c) (v1 := .int .i64 h) (v2 := .int .i64 m) (v3 := .slice (some ⟨g2, 0, none⟩) l c2) (by simp)
        have hx : w7.cell? ⟨g, k, none⟩ = some (.int .i64 v) := by
          have h9 := (hS.out.en.pix g l (L := L) (by simp)).cell (k := k) (by rw [EL.out]; exact hlt'.out)
          rw [EV.out] at h9; exact h9
        exact ⟨p0, p3, q3, hx⟩
      refine hKQ.out _ _ ⟨⟨_, hMv2⟩, rfl⟩ (fun hHeld2 => ?_)
      clear hKQ KQ hHeld hMv2
      refine wpAnyH_done (by kernel_rfl) ?_ _
      refine NoPanic.normal ?_
      clear c0 c1 c2' c3 m1 m2 m3 m4 m5 m6 m7 m8 m9 m10 m11 m12 hc0 hc1 hDI hMv
      go_wp2_with fail
      go_roundw
      case rel => exact ⟨k + 1, _, hlt'.out, by rw [q20]; exact congrArg (Value.int .i64) (by omega), HQ2, hS⟩
      case measure => rw [q20]; exact down_by hlt'.out
    · obtain rfl : k = l := by omega
      have HQ1 := Lib.hid (show MovedTo c h n L Q L.length by rw [EL.out]; exact HQ.out)
      have hvQ := Lib.hid (moved_plane hv'.out HQ1.out)
      have EQ := Lib.hid (show Q.length = k by rw [HQ.out.1]; exact EL.out)
      clear HQ hk hlt
      go_wp2_with fail
      go_upto_region 9 with fail
      go_cut [10, 11, 12] (fun x y z wx => ∃ (rb gK cK : Nat) (K : List Int) (s : Int), x = .slice (some ⟨gK, 0, none⟩) K.length cK ∧ y = .int .i64 s ∧ z = .pointer (some ⟨rb, 0, none⟩) ∧ Hid ((K.length : Int) = 9 ∧ Small K) ∧ Hid (0 ≤ s ∧ s < 4) ∧ Hid (St W p a0 cap xs [.box rb (.int .i64 0) (.int .i64 0) (.int .i64 c) (.int .i64 h), .pix gK cK K, .pix g2 c2 Q, .box qb (.int .i64 c) (.int .i64 h) (.int .i64 m) (.slice (some ⟨g2, 0, none⟩) k c2), .box pb (.int .i64 c) (.int .i64 h) (.int .i64 m) (.slice (some ⟨g, 0, none⟩) k k), .pix g k L] wx))
      case first =>
        haveI : Nonempty (In (B4 pb (.int .i64 c) (.int .i64 h) (.int .i64 m) (.slice (some ⟨g, 0, none⟩) k k))) := ⟨⟨_, hS.out.en.box pb (by simp)⟩⟩
        have c0 : ∀ s : In (B4 pb (.int .i64 c) (.int .i64 h) (.int .i64 m) (.slice (some ⟨g, 0, none⟩) k k)), s.w.cell? ⟨pb, 0, none⟩ = some (.int .i64 c) := fun s => s.h.1
        have c1 : ∀ s : In (B4 pb (.int .i64 c) (.int .i64 h) (.int .i64 m) (.slice (some ⟨g, 0, none⟩) k k)), s.w.cell? ⟨pb, 1, none⟩ = some (.int .i64 h) := fun s => s.h.2.1
        refine wp_region_noPanic ?_
        refine wp_region_held_drew (S := InW (B4 pb (.int .i64 c) (.int .i64 h) (.int .i64 m) (.slice (some ⟨g, 0, none⟩) k k))) (by kernel_rfl) ⟨⟨World.drew _, hS.out.drewn.en.box pb (by simp)⟩, rfl⟩ (fun hHeld => ?_)
        replace hS := Lib.hid hS.out.drewn
        obtain ⟨wd, ewd⟩ : ∃ wd, World.drew wr = wd := ⟨_, rfl⟩
        rw [ewd] at hS hHeld
        simp only [ewd]
        clear ewd
        refine held_run 1 0 12 rfl (by decide) (by kernel_rfl) (by kernel_rfl) (by kernel_rfl) (fun _ _ _ _ _ h => h) hHeld ?_
        simp only [List.take_succ_cons, List.take_zero, List.drop_succ_cons, List.drop_zero]
        repeat (go_big_quiet_step (fail))
        refine wpQuiet_nil ?_
        (try simp only [Act.put, List.setIfInBounds_toArray, List.set_cons_zero, List.set_cons_succ])
        refine held_run 1 2 11 rfl (by decide) (by kernel_rfl) (by kernel_rfl) (by kernel_rfl) (fun _ _ _ _ _ h => h) hHeld ?_
        simp only [List.take_succ_cons, List.take_zero, List.drop_succ_cons, List.drop_zero]
        repeat (go_big_quiet_step (fail))
        refine wpQuiet_nil ?_
        (try simp only [Act.put, List.setIfInBounds_toArray, List.set_cons_zero, List.set_cons_succ])
        refine held_run 5 4 6 rfl (by decide) (by kernel_rfl) (by kernel_rfl) (by kernel_rfl) (fun _ _ _ _ _ h => h) hHeld ?_
        simp only [List.take_succ_cons, List.take_zero, List.drop_succ_cons, List.drop_zero]
        repeat (go_big_quiet_step (fail))
        refine wpQuiet_nil ?_
        (try simp only [Act.put, List.setIfInBounds_toArray, List.set_cons_zero, List.set_cons_succ])
        refine wpAnyH_ready (rs := [1, 9]) (by kernel_rfl) (by simp) (AllReadyH.cons rfl (fun KQ hKQ => ?_) (AllReadyH.cons rfl (fun KQ hKQ => ?_) AllReadyH.nil))
        · go_simp
          go_at_call 10
          refine (weights_some W p a0 cap xs 9 _ hS.out.tape hS.out.below.size (by omega)).mono ?_; intro e wo1 hpost
          obtain ⟨gK, cK, K, rfl, hK, hKs, hP, hT, hg⟩ := wt_row hpost (by omega)
          replace hS := Lib.hid (hS.out.drawn hP hT hg)
          have HK := Lib.hid (And.intro hK hKs)
          clear hpost hP hT hg hK hKs
          go_wp2_with fail
          refine hKQ.out _ _ ⟨⟨_, hS.out.en.box pb (by simp)⟩, rfl⟩ (fun hHeld2 => ?_)
          clear hKQ KQ hHeld
          have hHeld := hHeld2
          clear hHeld2
          (try simp only [Act.put, List.setIfInBounds_toArray, List.set_cons_zero, List.set_cons_succ])
          refine wpAnyH_ready (rs := [3, 9]) (by kernel_rfl) (by simp) (AllReadyH.cons rfl (fun KQ hKQ => ?_) (AllReadyH.cons rfl (fun KQ hKQ => ?_) AllReadyH.nil))
          · go_simp
            go_at_call 9
            refine (next_some W p a0 cap xs _ _ hS.out.tape (by omega) (by omega)).mono ?_; rintro e wo7 ⟨s, rfl, hs4, hT, hg⟩
            replace hS := Lib.hid (hS.out.draw hT hg)
            have HS4 := Lib.hid hs4
            clear hT hg hs4
            go_wp2_with fail
            refine hKQ.out _ _ ⟨⟨_, hS.out.en.box pb (by simp)⟩, rfl⟩ (fun hHeld2 => ?_)
            clear hKQ KQ hHeld
            have hHeld := hHeld2
            clear hHeld2
            (try simp only [Act.put, List.setIfInBounds_toArray, List.set_cons_zero, List.set_cons_succ])
            refine wpAnyH_ready (rs := [9]) (by kernel_rfl) (by simp) (AllReadyH.cons rfl (fun KQ hKQ => ?_) AllReadyH.nil)
            go_simp
            go_wp2_with fail
            have hSn := hS.out.new (.int .i64 0) (.int .i64 0) (.int .i64 0) (.int .i64 0) 33
            obtain ⟨rb, eb⟩ : ∃ x, wo7.heap.size = x := ⟨_, rfl⟩
            obtain ⟨wo8, ew⟩ : ∃ x, wo7.alloc (.cells #[.int .i64 0, .int .i64 0, .int .i64 0, .int .i64 0] 33) = x := ⟨_, rfl⟩
            rw [ew, eb] at hSn
            simp only [ew, eb]
            replace hS := Lib.hid hSn
            clear hSn ew eb
            refine hKQ.out _ _ ⟨⟨_, hS.out.en.box pb (by simp)⟩, rfl⟩ (fun hHeld2 => ?_)
            clear hKQ KQ hHeld
            have hHeld := hHeld2
            clear hHeld2
            (try simp only [Act.put, List.setIfInBounds_toArray, List.set_cons_zero, List.set_cons_succ])
            refine held_run 2 10 1 rfl (by decide) (by kernel_rfl) (by kernel_rfl) (by kernel_rfl) (fun _ _ _ _ _ h => h) hHeld ?_
            simp only [List.take_succ_cons, List.take_zero, List.drop_succ_cons, List.drop_zero]
            repeat (go_big_quiet_step (fail))
            refine wpQuiet_nil ?_
            (try simp only [Act.put, List.setIfInBounds_toArray, List.set_cons_zero, List.set_cons_succ])
            refine wpAnyH_ready (rs := [12]) (by kernel_rfl) (by simp) (AllReadyH.cons rfl (fun KQ hKQ => ?_) AllReadyH.nil)
            obtain ⟨⟨zz0, zz1, zz2, zz3⟩, zf0, zf1, zf2, zf3⟩ := (show Box4 _ _ _ _ _ _ from hS.out.en.ok _ (List.mem_cons_self ..))
            have hSn := hS.out.setbox (.int .i64 0) (.int .i64 0) (.int .i64 c) (.int .i64 h)
            unfold put4 at hSn
            go_simp
            (try go_wp2_with fail)
            obtain ⟨wo10, ew⟩ : ∃ x, ((((wo8.setCell ⟨rb, 0, none⟩ (.int .i64 0)).setCell ⟨rb, 1, none⟩ (.int .i64 0)).setCell ⟨rb, 2, none⟩ (.int .i64 c)).setCell ⟨rb, 3, none⟩ (.int .i64 h)) = x := ⟨_, rfl⟩
            rw [ew] at hSn
            simp only [ew]
            replace hS := Lib.hid hSn
            clear hSn ew zz0 zz1 zz2 zz3 zf0 zf1 zf2 zf3
            refine hKQ.out _ _ ⟨⟨_, hS.out.en.box pb (by simp)⟩, rfl⟩ (fun hHeld2 => ?_)
            clear hKQ KQ hHeld
            have hHeld := hHeld2
            clear hHeld2
            (try simp only [Act.put, List.setIfInBounds_toArray, List.set_cons_zero, List.set_cons_succ])
            refine wpAnyH_done (by kernel_rfl) ?_ _
            refine NoPanic.normal ?_
            replace hS := Lib.hid (hS.out.pull 1 rfl rfl)
            replace hS := Lib.hid (hS.out.pull 1 rfl rfl)
            go_wp2_with fail
            go_meet
            exact ⟨rb, gK, cK, K, s, rfl, rfl, rfl, HK, HS4, hS⟩
          · go_simp
            go_wp2_with fail
            have hSn := hS.out.new (.int .i64 0) (.int .i64 0) (.int .i64 0) (.int .i64 0) 33
            obtain ⟨rb, eb⟩ : ∃ x, wo1.heap.size = x := ⟨_, rfl⟩
            obtain ⟨wo8, ew⟩ : ∃ x, wo1.alloc (.cells #[.int .i64 0, .int .i64 0, .int .i64 0, .int .i64 0] 33) = x := ⟨_, rfl⟩
            rw [ew, eb] at hSn
            simp only [ew, eb]
            replace hS := Lib.hid hSn
            clear hSn ew eb
            refine hKQ.out _ _ ⟨⟨_, hS.out.en.box pb (by simp)⟩, rfl⟩ (fun hHeld2 => ?_)
            clear hKQ KQ hHeld
            have hHeld := hHeld2
            clear hHeld2
            (try simp only [Act.put, List.setIfInBounds_toArray, List.set_cons_zero, List.set_cons_succ])
            refine wpAnyH_ready (rs := [3]) (by kernel_rfl) (by simp) (AllReadyH.cons rfl (fun KQ hKQ => ?_) AllReadyH.nil)
            go_simp
            go_at_call 9
            refine (next_some W p a0 cap xs _ _ hS.out.tape (by omega) (by omega)).mono ?_; rintro e wo7 ⟨s, rfl, hs4, hT, hg⟩
            replace hS := Lib.hid (hS.out.draw hT hg)
            have HS4 := Lib.hid hs4
            clear hT hg hs4
            go_wp2_with fail
            refine hKQ.out _ _ ⟨⟨_, hS.out.en.box pb (by simp)⟩, rfl⟩ (fun hHeld2 => ?_)
            clear hKQ KQ hHeld
            have hHeld := hHeld2
            clear hHeld2
            (try simp only [Act.put, List.setIfInBounds_toArray, List.set_cons_zero, List.set_cons_succ])
            refine held_run 2 10 1 rfl (by decide) (by kernel_rfl) (by kernel_rfl) (by kernel_rfl) (fun _ _ _ _ _ h => h) hHeld ?_
            simp only [List.take_succ_cons, List.take_zero, List.drop_succ_cons, List.drop_zero]
            repeat (go_big_quiet_step (fail))
            refine wpQuiet_nil ?_
            (try simp only [Act.put, List.setIfInBounds_toArray, List.set_cons_zero, List.set_cons_succ])
            refine wpAnyH_ready (rs := [12]) (by kernel_rfl) (by simp) (AllReadyH.cons rfl (fun KQ hKQ => ?_) AllReadyH.nil)
            obtain ⟨⟨zz0, zz1, zz2, zz3⟩, zf0, zf1, zf2, zf3⟩ := (show Box4 _ _ _ _ _ _ from hS.out.en.ok _ (List.mem_cons_self ..))
            have hSn := hS.out.setbox (.int .i64 0) (.int .i64 0) (.int .i64 c) (.int .i64 h)
            unfold put4 at hSn
            go_simp
            (try go_wp2_with fail)
            obtain ⟨wo10, ew⟩ : ∃ x, ((((wo7.setCell ⟨rb, 0, none⟩ (.int .i64 0)).setCell ⟨rb, 1, none⟩ (.int .i64 0)).setCell ⟨rb, 2, none⟩ (.int .i64 c)).setCell ⟨rb, 3, none⟩ (.int .i64 h)) = x := ⟨_, rfl⟩
            rw [ew] at hSn
            simp only [ew]
            replace hS := Lib.hid hSn
            clear hSn ew zz0 zz1 zz2 zz3 zf0 zf1 zf2 zf3
            refine hKQ.out _ _ ⟨⟨_, hS.out.en.box pb (by simp)⟩, rfl⟩ (fun hHeld2 => ?_)
            clear hKQ KQ hHeld
            have hHeld := hHeld2
            clear hHeld2
            (try simp only [Act.put, List.setIfInBounds_toArray, List.set_cons_zero, List.set_cons_succ])
            refine wpAnyH_done (by kernel_rfl) ?_ _
            refine NoPanic.normal ?_
            replace hS := Lib.hid (hS.out.pull 1 rfl rfl)
            replace hS := Lib.hid (hS.out.pull 1 rfl rfl)
            go_wp2_with fail
            go_meet
            exact ⟨rb, gK, cK, K, s, rfl, rfl, rfl, HK, HS4, hS⟩
        · go_simp
          go_wp2_with fail
          have hSn := hS.out.new (.int .i64 0) (.int .i64 0) (.int .i64 0) (.int .i64 0) 33
          obtain ⟨rb, eb⟩ : ∃ x, wd.heap.size = x := ⟨_, rfl⟩
          obtain ⟨wo8, ew⟩ : ∃ x, wd.alloc (.cells #[.int .i64 0, .int .i64 0, .int .i64 0, .int .i64 0] 33) = x := ⟨_, rfl⟩
          rw [ew, eb] at hSn
          simp only [ew, eb]
          replace hS := Lib.hid hSn
          clear hSn ew eb
          refine hKQ.out _ _ ⟨⟨_, hS.out.en.box pb (by simp)⟩, rfl⟩ (fun hHeld2 => ?_)
          clear hKQ KQ hHeld
          have hHeld := hHeld2
          clear hHeld2
          (try simp only [Act.put, List.setIfInBounds_toArray, List.set_cons_zero, List.set_cons_succ])
          refine wpAnyH_ready (rs := [1]) (by kernel_rfl) (by simp) (AllReadyH.cons rfl (fun KQ hKQ => ?_) AllReadyH.nil)
          go_simp
          go_at_call 10
          refine (weights_some W p a0 cap xs 9 _ hS.out.tape hS.out.below.size (by omega)).mono ?_; intro e wo1 hpost
          obtain ⟨gK, cK, K, rfl, hK, hKs, hP, hT, hg⟩ := wt_row hpost (by omega)
          replace hS := Lib.hid (hS.out.drawn hP hT hg)
          have HK := Lib.hid (And.intro hK hKs)
          clear hpost hP hT hg hK hKs
          go_wp2_with fail
          refine hKQ.out _ _ ⟨⟨_, hS.out.en.box pb (by simp)⟩, rfl⟩ (fun hHeld2 => ?_)
          clear hKQ KQ hHeld
          have hHeld := hHeld2
          clear hHeld2
          (try simp only [Act.put, List.setIfInBounds_toArray, List.set_cons_zero, List.set_cons_succ])
          refine wpAnyH_ready (rs := [3]) (by kernel_rfl) (by simp) (AllReadyH.cons rfl (fun KQ hKQ => ?_) AllReadyH.nil)
          go_simp
          go_at_call 9
          refine (next_some W p a0 cap xs _ _ hS.out.tape (by omega) (by omega)).mono ?_; rintro e wo7 ⟨s, rfl, hs4, hT, hg⟩
          replace hS := Lib.hid (hS.out.draw hT hg)
          have HS4 := Lib.hid hs4
          clear hT hg hs4
          go_wp2_with fail
          refine hKQ.out _ _ ⟨⟨_, hS.out.en.box pb (by simp)⟩, rfl⟩ (fun hHeld2 => ?_)
          clear hKQ KQ hHeld
          have hHeld := hHeld2
          clear hHeld2
          (try simp only [Act.put, List.setIfInBounds_toArray, List.set_cons_zero, List.set_cons_succ])
          refine held_run 2 10 1 rfl (by decide) (by kernel_rfl) (by kernel_rfl) (by kernel_rfl) (fun _ _ _ _ _ h => h) hHeld ?_
          simp only [List.take_succ_cons, List.take_zero, List.drop_succ_cons, List.drop_zero]
          repeat (go_big_quiet_step (fail))
          refine wpQuiet_nil ?_
          (try simp only [Act.put, List.setIfInBounds_toArray, List.set_cons_zero, List.set_cons_succ])
          refine wpAnyH_ready (rs := [12]) (by kernel_rfl) (by simp) (AllReadyH.cons rfl (fun KQ hKQ => ?_) AllReadyH.nil)
          replace hS := Lib.hid (hS.out.pull 1 rfl rfl)
          obtain ⟨⟨zz0, zz1, zz2, zz3⟩, zf0, zf1, zf2, zf3⟩ := (show Box4 _ _ _ _ _ _ from hS.out.en.ok _ (List.mem_cons_self ..))
          have hSn := hS.out.setbox (.int .i64 0) (.int .i64 0) (.int .i64 c) (.int .i64 h)
          unfold put4 at hSn
          go_simp
          (try go_wp2_with fail)
          obtain ⟨wo10, ew⟩ : ∃ x, ((((wo7.setCell ⟨rb, 0, none⟩ (.int .i64 0)).setCell ⟨rb, 1, none⟩ (.int .i64 0)).setCell ⟨rb, 2, none⟩ (.int .i64 c)).setCell ⟨rb, 3, none⟩ (.int .i64 h)) = x := ⟨_, rfl⟩
          rw [ew] at hSn
          simp only [ew]
          replace hS := Lib.hid hSn
          clear hSn ew zz0 zz1 zz2 zz3 zf0 zf1 zf2 zf3
          refine hKQ.out _ _ ⟨⟨_, hS.out.en.box pb (by simp)⟩, rfl⟩ (fun hHeld2 => ?_)
          clear hKQ KQ hHeld
          have hHeld := hHeld2
          clear hHeld2
          (try simp only [Act.put, List.setIfInBounds_toArray, List.set_cons_zero, List.set_cons_succ])
          refine wpAnyH_done (by kernel_rfl) ?_ _
          refine NoPanic.normal ?_
          replace hS := Lib.hid (hS.out.pull 1 rfl rfl)
          replace hS := Lib.hid (hS.out.pull 1 rfl rfl)
          go_wp2_with fail
          go_meet
          exact ⟨rb, gK, cK, K, s, rfl, rfl, rfl, HK, HS4, hS⟩
      case rest =>
        clear hS
        obtain ⟨rb, gK, cK, K, s, rfl, rfl, rfl, HK, HS4, hS⟩ := hcut
        have HED := Lib.hid (show edgeB 2 0 m = true from edgeB_t.2 (by omega))
        have HCK := Lib.hid (show checkC m 3 3 K s 255 = 0 from small_check HM.out (by decide) (by decide) (by rw [HK.out.1]; decide) HK.out.2 (by have := HS4.out; omega) (by decide))
        obtain ⟨C1, eC1⟩ : ∃ C, convL c h L 2 0 3 3 K s 255 0 0 c h = C := ⟨_, rfl⟩
        obtain ⟨C2, eC2⟩ : ∃ C, convL c h Q 2 0 3 3 K s 255 0 0 c h = C := ⟨_, rfl⟩
        have hlen : ∀ P : List Int, planeB c h m P = true → ∀ C, convL c h P 2 0 3 3 K s 255 0 0 c h = C → C.length = P.length := by
          intro P hP C eC
          have h1 := (planeB_t.1 (conv_plane (q := 2) (f := 0) (kw := 3) (kh := 3) (K := K) (s := s) (out := 255) hP (by decide))).2.1
          have h2 := (planeB_t.1 hP).2.1
          rw [eC] at h1
          omega
        have EN1 := Lib.hid (show C1.length = k by rw [hlen L hv'.out C1 eC1]; exact EL.out)
        have EN2 := Lib.hid (show C2.length = k by rw [hlen Q hvQ.out C2 eC2]; exact EQ.out)
        have HMV := Lib.hid (fun (j : Nat) (hj : j < k) => (show C2.getD (mvI c n j).toNat 0 = C1.getD j 0 by
          rw [← eC1, ← eC2]
          refine convL_moved hv'.out HQ1.out ?_
          have h2 := (planeB_t.1 hv'.out).2.1
          rw [EL.out] at h2
          omega))
        have EC1 := Lib.hid eC1
        have EC2 := Lib.hid eC2
        clear hlen eC1 eC2 HK HS4
        obtain ⟨p0, p1, p2, p3⟩ := hS.out.en.box pb (v0 := .int .i64 c) (v1 := .int .i64 h) (v2 := .int .i64 m) (v3 := .slice (some ⟨g, 0, none⟩) k k) (by simp)
        obtain ⟨r0, r1, r2, r3⟩ := hS.out.en.box rb (v0 := .int .i64 0) (v1 := .int .i64 0) (v2 := .int .i64 c) (v3 := .int .i64 h) (by simp)
        go_wp2_with fail
        refine (ctile_v hv'.out HED.out HCK.out (by have := HC.out; omega) (by have := HH.out; omega) (Int.sub_zero c) (Int.sub_zero h) EC1.out EN1.out EL.out rfl _ _ _ _ _ (hS.out.en.isS g k (by simp)) (hS.out.en.isS gK cK (by simp))).mono ?_; rintro e w8 ⟨g3, c3, rfl, hP, hb⟩
        have hS1 := (hS.out.made hP hb).new (.int .i64 c) (.int .i64 h) (.int .i64 255) (.slice (some ⟨g3, 0, none⟩) k c3) 35
        obtain ⟨xb, exb⟩ : ∃ x, w8.heap.size = x := ⟨_, rfl⟩
        obtain ⟨w9, ew9⟩ : ∃ x, w8.alloc (.cells #[.int .i64 c, .int .i64 h, .int .i64 255, .slice (some ⟨g3, 0, none⟩) k c3] 35) = x := ⟨_, rfl⟩
        rw [exb, ew9] at hS1
        replace hS := Lib.hid hS1
        clear hP hb hS1 p0 p1 p2 p3 r0 r1 r2 r3
        go_upto_region 11 with fail
        (try simp only [exb, ew9])
        clear exb ew9
        obtain ⟨p0, p1, p2, p3⟩ := hS.out.en.box qb (v0 := .int .i64 c) (v1 := .int .i64 h) (v2 := .int .i64 m) (v3 := .slice (some ⟨g2, 0, none⟩) k c2) (by simp)
        obtain ⟨r0, r1, r2, r3⟩ := hS.out.en.box rb (v0 := .int .i64 0) (v1 := .int .i64 0) (v2 := .int .i64 c) (v3 := .int .i64 h) (by simp)
        go_wp2_with fail
        refine (ctile_v hvQ.out HED.out HCK.out (by have := HC.out; omega) (by have := HH.out; omega) (Int.sub_zero c) (Int.sub_zero h) EC2.out EN2.out EQ.out rfl _ _ _ _ _ (hS.out.en.isS g2 c2 (by simp)) (hS.out.en.isS gK cK (by simp))).mono ?_; rintro e w10 ⟨g4, c4, rfl, hP, hb⟩
        have hS1 := (hS.out.made hP hb).new (.int .i64 c) (.int .i64 h) (.int .i64 255) (.slice (some ⟨g4, 0, none⟩) k c4) 35
        obtain ⟨yb, eyb⟩ : ∃ x, w10.heap.size = x := ⟨_, rfl⟩
        obtain ⟨w11, ew11⟩ : ∃ x, w10.alloc (.cells #[.int .i64 c, .int .i64 h, .int .i64 255, .slice (some ⟨g4, 0, none⟩) k c4] 35) = x := ⟨_, rfl⟩
        rw [eyb, ew11] at hS1
        replace hS := Lib.hid hS1
        clear hP hb hS1 p0 p1 p2 p3 r0 r1 r2 r3
        go_upto_region 12 with fail
        (try simp only [eyb, ew11])
        clear eyb ew11
        obtain ⟨p0, p1, p2, p3⟩ := hS.out.en.box pb (v0 := .int .i64 c) (v1 := .int .i64 h) (v2 := .int .i64 m) (v3 := .slice (some ⟨g, 0, none⟩) k k) (by simp)
        obtain ⟨q0, q1, q2, q3⟩ := hS.out.en.box xb (v0 := .int .i64 c) (v1 := .int .i64 h) (v2 := .int .i64 255) (v3 := .slice (some ⟨g3, 0, none⟩) k c3) (by simp)
        obtain ⟨r0, r1, r2, r3⟩ := hS.out.en.box yb (v0 := .int .i64 c) (v1 := .int .i64 h) (v2 := .int .i64 255) (v3 := .slice (some ⟨g4, 0, none⟩) k c4) (by simp)
        go_wp2_with fail
        clear p0 p1 p2 p3 q0 q1 q2 q3 r0 r1 r2 r3
        go_loopw [17] (fun i wr => ∃ j : Nat, j ≤ k ∧ i = .int .i64 j ∧ Hid (St W p a0 cap xs [.box yb (.int .i64 c) (.int .i64 h) (.int .i64 255) (.slice (some ⟨g4, 0, none⟩) k c4), .pix g4 c4 C2, .box xb (.int .i64 c) (.int .i64 h) (.int .i64 255) (.slice (some ⟨g3, 0, none⟩) k c3), .pix g3 c3 C1, .box rb (.int .i64 0) (.int .i64 0) (.int .i64 c) (.int .i64 h), .pix gK cK K, .pix g2 c2 Q, .box qb (.int .i64 c) (.int .i64 h) (.int .i64 m) (.slice (some ⟨g2, 0, none⟩) k c2), .box pb (.int .i64 c) (.int .i64 h) (.int .i64 m) (.slice (some ⟨g, 0, none⟩) k k), .pix g k L] wr)) (fun i _ => k - (intOf i).toNat)
        case atStart => exact ⟨0, by omega, rfl, hS⟩
        case round =>
          clear hS
          obtain ⟨j, hj, rfl, hS⟩ := hrel
          obtain ⟨p0, p1, p2, p3⟩ := hS.out.en.box pb (v0 := .int .i64 c) (v1 := .int .i64 h) (v2 := .int .i64 m) (v3 := .slice (some ⟨g, 0, none⟩) k k) (by simp)
          by_cases hlt : j < k
          · have hkI : (j : Int) < k := by omega
            have hlt' := Lib.hid hlt
            have q20 : wrap64 ((j : Int) + 1) = (j : Int) + 1 := wrap_in _ (by omega) (by have := HL4.out; omega)
            obtain ⟨q0, q1, q2, q3⟩ := hS.out.en.box xb (v0 := .int .i64 c) (v1 := .int .i64 h) (v2 := .int .i64 255) (v3 := .slice (some ⟨g3, 0, none⟩) k c3) (by simp)
            obtain ⟨r0, r1, r2, r3⟩ := hS.out.en.box yb (v0 := .int .i64 c) (v1 := .int .i64 h) (v2 := .int .i64 255) (v3 := .slice (some ⟨g4, 0, none⟩) k c4) (by simp)
            obtain ⟨d, rr, rr2, t, e, D, m1, m2, m3, m4, m5, m6, m7, m8, m9, m10, m11, m12, m13, m14⟩ := mv_wraps (n := n) (k := j) hv'.out HN.out (by rw [EL.out]; exact hlt)
            rw [EL.out] at m13
            have k1 := (hS.out.en.pix g4 c4 (L := C2) (by simp)).cell (k := D) (by rw [EN2.out]; exact m13)
            have k2 := (hS.out.en.pix g3 c3 (L := C1) (by simp)).cell (k := j) (by rw [EN1.out]; exact hlt)
            have k3 := HMV.out j hlt
            rw [← m14] at k3
            rw [k3] at k1
            obtain ⟨v, ev⟩ : ∃ v, C1.getD j 0 = v := ⟨_, rfl⟩
            rw [ev] at k1 k2
            have hc0 : ¬ c = 0 := by have := HC.out; omega
            have hDI : (D : Int) < k := by omega
            have hvv : (v != v) = false := by simp
            clear m14 k3 ev
            go_wp2_with fail
            go_quiet (fail)
            go_wp2_with fail
            go_roundw
            case rel => exact ⟨j + 1, hlt'.out, by (try rw [q20]); exact congrArg (Value.int .i64) (by omega), Lib.hid (hS.out.call (bdrewN (bref _) _))⟩
            case measure => (try rw [q20]); exact down_by hlt'.out
          · obtain rfl : j = k := by omega
            go_wp2_with fail
            refine (sane_is _).mono ?_; rintro e w13 ⟨rfl, hb⟩
            have hfin := Lib.hid (bthen hS.out.below hb)
            clear hb
            go_wp2_with fail
            go_returns
            exact ⟨rfl, hfin.out⟩
namespace convolveMoves
theorem own : ownKnob Try.prog.godebug = none := by kernel_rfl
theorem laid : laidOutB Try.prog = true := by kernel_rfl
theorem params_ok : ∀ t ∈ Try.f7.params.toList, Try.prog.readableRec t = true ∧ t < Try.prog.types.size := by
  rw [Try.params7]
  intro t ht
  simp at ht
  rcases ht with rfl | rfl <;> exact ⟨by kernel_rfl, of_decide_eq_true (by kernel_rfl)⟩
set_option maxRecDepth 100000 in
theorem lifted (os : Os) (started : os.Started) (H : Type) (enc : TypeId × Value → H) :
    ReturnsInHanded {} Try.checked os 7 .any (Rows.convolveMovesSpec.pre6 enc Try.prog Try.f7 Rows.convolveMovesRow.domain false) (Rows.convolveMovesSpec.post enc Try.prog Try.f7 false true false false) := by
  refine returnsInHanded_of_change (C := Try.checked) own started (by kernel_rfl) Try.func7
    (ChangeSpec.witness6 (enc := enc) (C := Try.checked) false ⟨#[], #[.slice none 0 0, .int .i64 0], []⟩ 8 (by kernel_rfl) (by kernel_rfl) (by kernel_rfl) (by kernel_rfl)) ?_
  intro W base args ds gs before hval0 hW hcnd _
  have hval : ∀ (j : Nat) t v, Try.f7.params[j]? = some t → args[j]? = some v → Value.okWide Try.prog W .any base t v := hval0
  have hW' := hW
  obtain ⟨p, q, hA0, hV, rfl, hfz, hnd⟩ := hW
  have hA : DataW.TrodAll enc Try.prog W 0 (fun _ => true) true Try.f7.params.toList args.toList ds p := hA0
  rw [Try.params7] at hA hval
  obtain ⟨v0, vs0, d0, ds0, p0, q0, hargs, rfl, rfl, h0, r0⟩ := trodAll_cons hA
  obtain ⟨v1, vs1, d1, ds1, p1, q1, rfl, rfl, rfl, h1, r1⟩ := trodAll_cons r0
  obtain ⟨rfl, rfl, rfl⟩ := trodAll_nil r1
  obtain rfl : args = #[v0, v1] := by cases args; simp_all
  obtain ⟨rfl, rfl⟩ := trodVars_none hV
  obtain ⟨a0, len, cap, rfl⟩ := okWide_slice Try.underlying22 (hval 0 22 v0 rfl rfl)
  obtain ⟨xs, rfl, hs, hf, hl⟩ := open_list h0
  obtain ⟨i1, rfl, rfl, rfl, w1⟩ := open_int Try.underlying3 (hval 1 3 v1 rfl rfl) h1
  clear hA0 hval0
  have fin : Calls Try.prog 7 #[.slice a0 xs.length cap, .int .i64 i1] W (TestPost true W) := moves_walk xs a0 cap i1 W (wf_bd w1) hs hf hl
  refine fin.mono fun e W' ⟨he, hb⟩ => ?_
  subst he
  exact ⟨_, rfl, law_post laid rfl Try.underlying4 params_ok rfl hW' rfl hb⟩

theorem over : Rows.convolveMovesRow.holds Try.pinned (OpenSpec.ofChange Rows.convolveMovesSpec) :=
  OpenClaim.holds_of_wide 7 Try.f7 rfl rfl rfl rfl rfl rfl rfl ⟨rfl, rfl, rfl, rfl, rfl⟩ rfl rfl rfl rfl rfl (by kernel_rfl) Try.func7 (by kernel_rfl)
    (of_decide_eq_true (by kernel_rfl)) (by unfold Func.isWrapper; first | (rw [if_pos (by decide +kernel)]; kernel_rfl) | (rw [if_neg (by decide +kernel)]; exact ⟨rfl, rfl⟩))
    (fun os started H enc _ => lifted os started H enc)

/-- the statement -/
theorem proved : Rows.ConvolveMovesSaid := over
#print axioms proved
end convolveMoves
end Go.Proofs.Ytibmoibhbgbfoaa
