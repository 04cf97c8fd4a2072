/- For all lists of numbers and of taps and all ints the statement TablesValid returns true: which tables are valid, for made and for arbitrary tables, is what the reference says. Conditions: the table math/bits.deBruijn64tab holds what the program's text lays in it (tied). -/
import Derived.Test.YtjmdpebocchdhaaDoorTSane
import Derived.Test.YtjmdpebocchdhaaDoorTTable
import Derived.Test.YtjmdpebocchdhaaDoorTOpen
namespace Go.Proofs.YtjmdpebocchdhaaDoor
open Go.ChangeShapes Go.WideShapes Go.ChangeAt Go.RowKit
set_option linter.unusedVariables false
set_option linter.unusedSimpArgs false

theorem rvalid_l (V : List Tv) (n : Int) (a : Option Addr) (cap l : Nat) (c : Int) (w : World) (ha : TapsIs w a V) (el : V.length = l) (hl : l ≤ 9223372036854775807) (hc : validC (V.map Tv.tp) n = c) : Calls Tryd.prog 14 #[.slice a l cap, .int .i64 n] w (NumPost c w) := by
  subst el; subst hc; exact rtvalid_any V n a cap w ha hl
theorem own_lt {base : Nat} {w : World} {a : Option Addr} {n c : Nat} {L : List Int} (h : OwnL base w (.slice a n c) L) : ∀ b o s, a = some ⟨b, o, s⟩ → base ≤ b ∧ b < w.heap.size := by
  intro b o s e
  subst e
  rcases h.2 with ⟨hn, _⟩ | ⟨g, cap, cur, hv, _⟩
  · cases hn
  · cases hv
    exact h.lt rfl
set_option maxRecDepth 100000 in
set_option maxHeartbeats 4000000 in
theorem valid_walk (xs : List Int) (a0 : Option Addr) (cap : Nat) (V0 : List Tv) (b1 : Option Addr) (n0 cap1 : Nat) (n : Int) (w : World) (hs : SliceIs w a0 xs) (hf : Fits xs) (hl : xs.length ≤ 9223372036854775807) (tl : TapsIs w b1 V0) (ten : V0.length = n0) (tbd : n0 ≤ 9223372036854775807) (hTab : TabZ w) :
    Calls Tryd.prog 3 #[.slice a0 xs.length cap, .slice b1 n0 cap1, .int .i64 n] w (TestPost true w) := by
  have hs' := Lib.hid hs
  have hf' := Lib.hid hf
  have hl' := Lib.hid hl
  have HL := Lib.hid tl
  have EL := Lib.hid ten
  have LL := Lib.hid tbd
  have HT := Lib.hid hTab
  obtain ⟨i0, hi, hi0, hi1, hi2⟩ := info_parts infoTap
  have hi' := Lib.hid hi
  have hi0' := Lib.hid hi0
  have hi1' := Lib.hid hi1
  have hi2' := Lib.hid hi2
  clear hs hf hl tl ten tbd hTab hi hi0 hi1 hi2
  go_enter Tryd.func3, Tryd.ntmps3
  go_wp2_with fail
  refine (new_any a0 cap xs _ hs'.out hf'.out hl'.out).mono ?_; rintro e w1 ⟨rfl, hT1⟩
  replace hT1 : Hid (TapeSome w w1 w.heap.size a0 cap xs) := Lib.hid ⟨0, hT1⟩
  go_wp2_with fail
  go_loopw [8] (fun i wr => ∃ k : Nat, k ≤ 4 ∧ i = .int .i64 k ∧ Hid (TapeSome w wr w.heap.size a0 cap xs)) (fun i _ => 4 - (intOf i).toNat)
  case atStart => exact ⟨0, by omega, rfl, hT1⟩
  case round =>
    clear hT1
    obtain ⟨k, hk, rfl, hT1⟩ := hrel
    by_cases hlt : k < 4
    · have hkI : (k : Int) < 4 := by omega
      have q1k : wrap64 ((k : Int) + 1) = (k : Int) + 1 := by unfold wrap64; omega
      have q4 : k + 1 ≤ 4 := hlt
      go_wp2_with fail
      refine (next_some w w.heap.size a0 cap xs _ _ hT1.out (by omega) (by omega)).mono ?_; rintro e w2 ⟨m0, rfl, hm0, hT2, hg⟩
      replace hT2 := Lib.hid hT2; clear hg hT1
      obtain ⟨m, em⟩ : ∃ m, 1 + m0 = m := ⟨_, rfl⟩
      have hm : Hid (1 ≤ m ∧ m ≤ 128) := Lib.hid (by omega)
      have wm : wrap64 (1 + m0) = m := by unfold wrap64; omega
      clear em hm0
      go_wp2_with fail
      refine (table_some w w.heap.size a0 cap xs m _ hT2.out hm.out).mono ?_; rintro e w3 ⟨v, V, rfl, hO, hVl, hT3, hg⟩
      have hp : Hid (w.heap.size < w2.heap.size) := Lib.hid hT2.out.choose_spec.lt
      have HS3 : Hid (w2.heap.size ≤ w3.heap.size) := Lib.hid hg.size
      replace hT3 := Lib.hid hT3; clear hg hT2
      by_cases h1 : (k : Int) ≤ 1
      · obtain ⟨ax, cx, rfl, hta⟩ := hO.taps
        have HX := Lib.hid hta
        obtain ⟨lx, elx⟩ : ∃ l, V.length = l := ⟨_, rfl⟩
        have EX := Lib.hid elx
        rw [elx] at hVl ⊢
        have LX : Hid (lx ≤ 9223372036854775807) := Lib.hid (by omega)
        clear hta hO elx hVl
        go_wp2_with fail
        obtain ⟨q1, eq1⟩ : ∃ q, validC (V.map Tv.tp) m = q := ⟨_, rfl⟩
        obtain ⟨q2, eq2⟩ : ∃ q, validC (V.map Tv.tp) n = q := ⟨_, rfl⟩
        have Q1 := Lib.hid eq1
        have Q2 := Lib.hid eq2
        clear eq1 eq2
        refine (tvalid_any V m _ _ _ _ _ HX.out EX.out LX.out Q1.out).mono ?_; rintro e y0 ⟨rfl, hb⟩
        have X0 := Lib.hid (taps_below HX.out hb)
        have U0 := Lib.hid (tape_more hT3.out hb)
        clear hb HX hT3
        go_wp2_with fail
        refine (rvalid_l V m _ _ _ _ _ X0.out EX.out LX.out Q1.out).mono ?_; rintro e y1 ⟨rfl, hb⟩
        have X1 := Lib.hid (taps_below X0.out hb)
        have U1 := Lib.hid (tape_more U0.out hb)
        clear hb X0 U0
        go_wp2_with fail
        refine (tvalid_any V n _ _ _ _ _ X1.out EX.out LX.out Q2.out).mono ?_; rintro e y2 ⟨rfl, hb⟩
        have X2 := Lib.hid (taps_below X1.out hb)
        have U2 := Lib.hid (tape_more U1.out hb)
        clear hb X1 U1
        go_wp2_with fail
        refine (rvalid_l V n _ _ _ _ _ X2.out EX.out LX.out Q2.out).mono ?_; rintro e y3 ⟨rfl, hb⟩
        have X3 := Lib.hid (taps_below X2.out hb)
        have U3 := Lib.hid (tape_more U2.out hb)
        clear hb X2 U2
        by_cases h200 : (n0 : Int) ≤ 200
        · have XL := Lib.hid (taps_below HL.out (tape_below U3.out))
          obtain ⟨r1, er1⟩ : ∃ q, validC (V0.map Tv.tp) m = q := ⟨_, rfl⟩
          obtain ⟨r2, er2⟩ : ∃ q, validC (V0.map Tv.tp) n = q := ⟨_, rfl⟩
          have R1 := Lib.hid er1
          have R2 := Lib.hid er2
          clear er1 er2
          go_wp2_with fail
          refine (tvalid_any V0 m _ _ _ _ _ XL.out EL.out LL.out R1.out).mono ?_; rintro e z0 ⟨rfl, hb⟩
          have Y0 := Lib.hid (taps_below XL.out hb)
          have T0 := Lib.hid (tape_more U3.out hb)
          clear hb XL U3
          go_wp2_with fail
          refine (rvalid_l V0 m _ _ _ _ _ Y0.out EL.out LL.out R1.out).mono ?_; rintro e z1 ⟨rfl, hb⟩
          have Y1 := Lib.hid (taps_below Y0.out hb)
          have T1 := Lib.hid (tape_more T0.out hb)
          clear hb Y0 T0
          go_wp2_with fail
          refine (tvalid_any V0 n _ _ _ _ _ Y1.out EL.out LL.out R2.out).mono ?_; rintro e z2 ⟨rfl, hb⟩
          have Y2 := Lib.hid (taps_below Y1.out hb)
          have T2 := Lib.hid (tape_more T1.out hb)
          clear hb Y1 T1
          go_wp2_with fail
          refine (rvalid_l V0 n _ _ _ _ _ Y2.out EL.out LL.out R2.out).mono ?_; rintro e z3 ⟨rfl, hb⟩
          have Y3 := Lib.hid (taps_below Y2.out hb)
          have T3 := Lib.hid (tape_more T2.out hb)
          clear hb Y2 T2
          go_wp2_with fail
          exact ⟨⟨k + 1, q4, by (try rw [q1k]); exact congrArg (Value.int .i64) (by omega), T3⟩, by (try rw [q1k]); exact down_meas hlt⟩
        · go_wp2_with fail
          exact ⟨⟨k + 1, q4, by (try rw [q1k]); exact congrArg (Value.int .i64) (by omega), U3⟩, by (try rw [q1k]); exact down_meas hlt⟩
      · have h1' : (1 : Int) < k := by omega
        have HO := Lib.hid hO
        have HVl := Lib.hid hVl
        clear hO hVl
        go_wp2_with fail
        refine (pick_litm (ys := [-128, -129, 256, 257]) w w.heap.size a0 cap xs _ _ _ _ hT3.out (by simp) (by simp) (by intro j hj; simp at hj; rcases (show j = 0 ∨ j = 1 ∨ j = 2 ∨ j = 3 by omega) with rfl | rfl | rfl | rfl <;> rfl)).mono ?_; rintro e w4 ⟨f, rfl, hfm, hT4, hg⟩
        replace hT4 := Lib.hid hT4
        have HO4 := Lib.hid (HO.out.grown hg hp.out)
        have HS4 : Hid (w2.heap.size ≤ w4.heap.size) := Lib.hid (Nat.le_trans HS3.out hg.size)
        clear hg hT3 HO hfm
        go_wp2_with fail
        refine (pick_litm (ys := [0, 1, 8, 9]) w w.heap.size a0 cap xs _ _ _ _ hT4.out (by simp) (by simp) (by intro j hj; simp at hj; rcases (show j = 0 ∨ j = 1 ∨ j = 2 ∨ j = 3 by omega) with rfl | rfl | rfl | rfl <;> rfl)).mono ?_; rintro e w5 ⟨wn, rfl, hwn, hT5, hg⟩
        replace hT5 := Lib.hid hT5
        have HO5 := Lib.hid (HO4.out.grown hg hp.out)
        have HS5 : Hid (w2.heap.size ≤ w5.heap.size) := Lib.hid (Nat.le_trans HS4.out hg.size)
        have hwn' : wn ≤ 100000 := by simp at hwn; omega
        clear hg hT4 HO4 hwn
        go_wp2_with fail
        refine (weights_some w w.heap.size a0 cap xs wn _ hT5.out hT5.out.choose_spec.below.size hwn').mono ?_; rintro e w6 ⟨lv, L, rfl, hLn, hT6, hg, hOL, -⟩
        have HO6 := Lib.hid (HO5.out.grown hg hp.out)
        have hlt5 : Hid (v.ownBlock ≠ none → ∀ g, v.ownBlock = some g → g < w5.heap.size) := Lib.hid (fun _ g e => (HO5.out.lt e).2)
        replace hT6 := Lib.hid hT6
        obtain ⟨la, lc, rfl, hLs⟩ := hOL.slice
        have HLs := Lib.hid hLs
        have HLt := Lib.hid (own_lt hOL)
        have hs2 : Hid (w2.heap.size ≤ w5.heap.size) := HS5
        obtain ⟨ln, eln⟩ : ∃ l, L.length = l := ⟨_, rfl⟩
        have ELN := Lib.hid eln
        rw [eln]
        have L1 := Lib.hid (show V.length + 1 ≤ maxLen by have := HVl.out; unfold maxLen; omega)
        have L2 := Lib.hid (show (V.length + 1) * 32 ≤ 140737488355328 by have := HVl.out; omega)
        have L3 : Hid (∀ o : Obj, w2.heap.size ≤ (w6.alloc o).heap.size) := Lib.hid (fun o => by have := hs2.out; have := hg.size; simp; omega)
        have hs6 : Hid (w5.heap.size ≤ w6.heap.size) := Lib.hid hg.size
        clear hg hT5 HO5 hwn' hLn hOL hLs eln
        go_wp2_with (at_builtin; go_must (refine wpList_append_lies _ rfl _ _ _ rfl w2.heap.size 31 i0 (.agg #[.int .i64 0, .slice none 0 0]) 2 32 Tryd.underlying23 hi'.out hi0'.out hi1'.out hi2'.out rfl (by decide) v V.length (flatT V) rfl (HO6.out.1.alloc _) ⟨w6.heap.size, 0, none⟩ 1 1 [.int .i64 f, .slice la ln lc] rfl rfl (World.news_of_block (heap_alloc_new _ _)) (by intro u hu; simp at hu; rcases hu with rfl | rfl <;> rfl) (by decide) L1.out L2.out (L3.out _) (w6.heap.size + 1) (by simp) ?_); intro g gc wB hown hgrow hat2 hlB)
        have HF2 := Lib.hid ((HO6.out.below (balloc (bref w6) (.cells #[.int .i64 f, .slice la ln lc] 31))).app (t := ⟨f, la, lc, L⟩) (by rw [flatT_one]; simp only [Tv.val]; rw [ELN.out]; exact hown) hgrow hat2 rfl (by simp) (is_below HLs.out (balloc (bref _) _)) (fun b o s e => by
          have h5 := HLt.out b o s e
          have h6 := hs2.out
          refine ⟨by omega, fun e2 => ?_, by simp; omega⟩
          have := hlt5.out (by rw [e2]; simp) b e2
          omega))
        have hTB : Hid (TapeSome w wB w.heap.size a0 cap xs) := Lib.hid ⟨hT6.out.choose, (hT6.out.choose_spec.more (balloc (bref w6) (.cells #[.int .i64 f, .slice la ln lc] 31))).keep hgrow (fun q e => by
          have h5 := (HO6.out.lt e).1
          have h6 := hp.out
          exact ⟨by omega, by omega⟩)⟩
        obtain ⟨ax, cx, eax, hta⟩ := HF2.out.taps
        have HX := Lib.hid hta
        obtain ⟨VV, eVV⟩ : ∃ VV, V ++ [⟨f, la, lc, L⟩] = VV := ⟨_, rfl⟩
        rw [eVV] at HX
        obtain ⟨lx, elx⟩ : ∃ l, V.length + 1 = l := ⟨_, rfl⟩
        have EX : Hid (VV.length = lx) := Lib.hid (by rw [← eVV, ← elx]; simp)
        have LX : Hid (lx ≤ 9223372036854775807) := Lib.hid (by have := HVl.out; omega)
        have eax' : ax = some ⟨g, 0, none⟩ := by injection eax with h1; exact h1.symm
        subst eax'
        clear hown hgrow hat2 hlB HF2 HLs HLt hlt5 hT6 HO6 eVV eax hta
        rw [elx]
        obtain ⟨q1, eq1⟩ : ∃ q, validC (VV.map Tv.tp) m = q := ⟨_, rfl⟩
        obtain ⟨q2, eq2⟩ : ∃ q, validC (VV.map Tv.tp) n = q := ⟨_, rfl⟩
        have Q1 := Lib.hid eq1
        have Q2 := Lib.hid eq2
        clear eq1 eq2
        refine (tvalid_any VV m _ _ _ _ _ HX.out EX.out LX.out Q1.out).mono ?_; rintro e y0 ⟨rfl, hb⟩
        have X0 := Lib.hid (taps_below HX.out hb)
        have U0 := Lib.hid (tape_more hTB.out hb)
        clear hb HX hTB
        go_wp2_with fail
        refine (rvalid_l VV m _ _ _ _ _ X0.out EX.out LX.out Q1.out).mono ?_; rintro e y1 ⟨rfl, hb⟩
        have X1 := Lib.hid (taps_below X0.out hb)
        have U1 := Lib.hid (tape_more U0.out hb)
        clear hb X0 U0
        go_wp2_with fail
        refine (tvalid_any VV n _ _ _ _ _ X1.out EX.out LX.out Q2.out).mono ?_; rintro e y2 ⟨rfl, hb⟩
        have X2 := Lib.hid (taps_below X1.out hb)
        have U2 := Lib.hid (tape_more U1.out hb)
        clear hb X1 U1
        go_wp2_with fail
        refine (rvalid_l VV n _ _ _ _ _ X2.out EX.out LX.out Q2.out).mono ?_; rintro e y3 ⟨rfl, hb⟩
        have X3 := Lib.hid (taps_below X2.out hb)
        have U3 := Lib.hid (tape_more U2.out hb)
        clear hb X2 U2
        by_cases h200 : (n0 : Int) ≤ 200
        · have XL := Lib.hid (taps_below HL.out (tape_below U3.out))
          obtain ⟨r1, er1⟩ : ∃ q, validC (V0.map Tv.tp) m = q := ⟨_, rfl⟩
          obtain ⟨r2, er2⟩ : ∃ q, validC (V0.map Tv.tp) n = q := ⟨_, rfl⟩
          have R1 := Lib.hid er1
          have R2 := Lib.hid er2
          clear er1 er2
          go_wp2_with fail
          refine (tvalid_any V0 m _ _ _ _ _ XL.out EL.out LL.out R1.out).mono ?_; rintro e z0 ⟨rfl, hb⟩
          have Y0 := Lib.hid (taps_below XL.out hb)
          have T0 := Lib.hid (tape_more U3.out hb)
          clear hb XL U3
          go_wp2_with fail
          refine (rvalid_l V0 m _ _ _ _ _ Y0.out EL.out LL.out R1.out).mono ?_; rintro e z1 ⟨rfl, hb⟩
          have Y1 := Lib.hid (taps_below Y0.out hb)
          have T1 := Lib.hid (tape_more T0.out hb)
          clear hb Y0 T0
          go_wp2_with fail
          refine (tvalid_any V0 n _ _ _ _ _ Y1.out EL.out LL.out R2.out).mono ?_; rintro e z2 ⟨rfl, hb⟩
          have Y2 := Lib.hid (taps_below Y1.out hb)
          have T2 := Lib.hid (tape_more T1.out hb)
          clear hb Y1 T1
          go_wp2_with fail
          refine (rvalid_l V0 n _ _ _ _ _ Y2.out EL.out LL.out R2.out).mono ?_; rintro e z3 ⟨rfl, hb⟩
          have Y3 := Lib.hid (taps_below Y2.out hb)
          have T3 := Lib.hid (tape_more T2.out hb)
          clear hb Y2 T2
          go_wp2_with fail
          exact ⟨⟨k + 1, q4, by (try rw [q1k]); exact congrArg (Value.int .i64) (by omega), T3⟩, by (try rw [q1k]); exact down_meas hlt⟩
        · go_wp2_with fail
          exact ⟨⟨k + 1, q4, by (try rw [q1k]); exact congrArg (Value.int .i64) (by omega), U3⟩, by (try rw [q1k]); exact down_meas hlt⟩
    · obtain rfl : k = 4 := by omega
      go_wp2_with fail
      refine (sane_is _ (tape_tab HT.out hT1.out)).mono ?_; rintro e w6 ⟨rfl, hb⟩
      have hfin := Lib.hid (bthen (tape_below hT1.out) hb)
      clear hb
      go_wp2_with fail
      go_returns
      exact ⟨rfl, hfin.out⟩
namespace tablesValid
theorem own : ownKnob Tryd.prog.godebug = none := by kernel_rfl
theorem laid : laidOutB Tryd.prog = true := by kernel_rfl
theorem params_ok : ∀ t ∈ Tryd.f3.params.toList, Tryd.prog.readableRec t = true ∧ t < Tryd.prog.types.size := by
  rw [Tryd.params3]
  intro t ht
  simp at ht
  rcases ht with rfl | rfl | rfl <;> exact ⟨by kernel_rfl, of_decide_eq_true (by kernel_rfl)⟩
set_option maxRecDepth 100000 in
theorem lifted (os : Os) (started : os.Started) (H : Type) (enc : TypeId × Value → H) :
    ReturnsInHanded {} Tryd.checked os 3 .any (fun w args => (Rows.tablesValidSpec.pre enc Tryd.prog Tryd.f3 Rows.tablesValidRow.domain false w args ∧ laidMetH Tryd.prog Rows.tablesValidRow.laid w) ∧ sizedMet enc Tryd.prog Tryd.f3 (OpenSpec.ofChange Rows.tablesValidSpec) false w args) (Rows.tablesValidSpec.post enc Tryd.prog Tryd.f3 false true false false) := by
  refine returnsInHanded_of_change_and (C := Tryd.checked) (X := fun w _ => laidMetH Tryd.prog Rows.tablesValidRow.laid w) (fun _ _ _ hh h => h.of_heap hh) own started (by kernel_rfl) Tryd.func3
    (ChangeSpec.witness_shaped (enc := enc) (C := Tryd.checked) (os := os) (X := fun w _ => laidMetH Tryd.prog Rows.tablesValidRow.laid w) false (World.laidAll Tryd.prog os Rows.tablesValidRow.laid) #[.slice none 0 0, .slice none 0 0, .int .i64 0] 8 (World.laidAll_os _ _ _)
      (World.shaped_of_ZipB (by kernel_rfl) (by kernel_rfl)) (by kernel_rfl) (by kernel_rfl) (by kernel_rfl)
      (by rw [MakeChecks.laidMetH_plain _ _ _ (by kernel_rfl)]; exact laidMet_laidAll _ (by kernel_rfl) (by kernel_rfl))) ?_
  intro W base args ds gs before hval0 hW hcnd _ hL _
  have hval : ∀ (j : Nat) t v, Tryd.f3.params[j]? = some t → args[j]? = some v → Value.okWide Tryd.prog W .any base t v := hval0
  have hW' := hW
  obtain ⟨p, q, hA0, hV, rfl, hfz, hnd⟩ := hW
  have hA : DataW.TrodAll enc Tryd.prog W 0 (fun _ => true) true Tryd.f3.params.toList args.toList ds p := hA0
  rw [Tryd.params3] at hA hval
  obtain ⟨v0, vs0, d0, ds0, p0, q0, hargs, rfl, rfl, h0, r0⟩ := trodAll_cons hA
  obtain ⟨v1, vs1, d1, ds1, p1, q1, rfl, rfl, rfl, h1, r1⟩ := trodAll_cons r0
  obtain ⟨v2, vs2, d2, ds2, p2, q2, rfl, rfl, rfl, h2, r2⟩ := trodAll_cons r1
  obtain ⟨rfl, rfl, rfl⟩ := trodAll_nil r2
  obtain rfl : args = #[v0, v1, v2] := by cases args; simp_all
  obtain ⟨rfl, rfl⟩ := trodVars_none hV
  obtain ⟨a0, len, cap, rfl⟩ := okWide_slice Tryd.underlying22 (hval 0 22 v0 rfl rfl)
  obtain ⟨xs, rfl, hs, hf, hl⟩ := open_list h0
  obtain ⟨b1, len1, d1c, rfl⟩ := okWide_slice Tryd.underlying23 (hval 1 23 v1 rfl rfl)
  obtain ⟨vt1, et1, tt1, tb1, ti1⟩ := open_taps h1
  obtain ⟨i2, rfl, rfl, rfl, w2⟩ := open_int Tryd.underlying3 (hval 2 3 v2 rfl rfl) h2
  clear hA0 hval0
  have fin : Calls Tryd.prog 3 #[.slice a0 xs.length cap, .slice b1 len1 d1c, .int .i64 i2] W (TestPost true W) := valid_walk xs a0 cap vt1 b1 len1 d1c i2 W hs hf hl tt1 et1.symm (by rw [et1]; exact tb1) (tab_laid hL)
  refine fin.mono fun e W' ⟨he, hb⟩ => ?_
  subst he
  exact ⟨_, rfl, law_post laid rfl Tryd.underlying4 params_ok rfl hW' rfl hb⟩

theorem over : Rows.tablesValidRow.holds Tryd.pinned (OpenSpec.ofChange Rows.tablesValidSpec) :=
  OpenClaim.holds_of_wide 3 Tryd.f3 rfl rfl rfl rfl rfl rfl rfl ⟨rfl, rfl, rfl, rfl, rfl⟩ rfl rfl rfl rfl rfl (by kernel_rfl) Tryd.func3 (by kernel_rfl)
    (of_decide_eq_true (by kernel_rfl)) (by unfold Func.isWrapper; first | (rw [if_pos (by decide +kernel)]; kernel_rfl) | (rw [if_neg (by decide +kernel)]; exact ⟨rfl, rfl⟩))
    (fun os started H enc _ => lifted os started H enc)

/-- the statement -/
theorem proved : Rows.TablesValidCardSaid :=
  Claim7.holds_tied_plain_at .later [] [.data] true Rows.tablesValidCard.stood.harness false over (fun _ h => by cases h) (by kernel_rfl) (fun _ h => by cases h) tablesValid_row_tie rfl ⟨rfl, rfl⟩ (by kernel_rfl) rfl
    (fun f fn hf hfn => by
      obtain rfl : f = 3 := Option.some.inj ((show Tryd.prog.funcNamed "tilefarm/tilefarmlaw8.TablesValid" = some 3 by kernel_rfl).symm.trans hf) |>.symm
      obtain rfl : fn = Tryd.f3 := (Option.some.inj (Tryd.func3.symm.trans hfn)).symm
      exact ⟨by kernel_rfl, fun j t ht => by
        rw [Tryd.params3] at ht
        have hm : t ∈ [22, 23, 3] := by simpa using Array.mem_of_getElem? ht
        have hall : ([22, 23, 3].all fun u => !Tryd.prog.wantsStandIn u) = true := by kernel_rfl
        exact (show Tryd.prog.wantsStandIn t = false by simpa using List.all_eq_true.1 hall t hm)⟩)
    (by kernel_rfl)
#print axioms proved
end tablesValid
end Go.Proofs.YtjmdpebocchdhaaDoor
