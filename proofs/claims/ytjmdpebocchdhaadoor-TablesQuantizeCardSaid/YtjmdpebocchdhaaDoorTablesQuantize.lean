/- For all lists of numbers, all lists of lists of numbers of 64 bits and all ints the statement TablesQuantize returns true: quantized tables, or the error, are those of the reference. Conditions: the table math/bits.deBruijn64tab holds what the program's text lays in it (tied). -/
import Derived.Test.YtjmdpebocchdhaaDoorTSane
import Derived.Test.YtjmdpebocchdhaaDoorTQMem
import Derived.Test.YtjmdpebocchdhaaDoorTOpen
namespace Go.Proofs.YtjmdpebocchdhaaDoor
open Go.ChangeShapes Go.WideShapes Go.ChangeAt Go.RowKit
set_option linter.unusedVariables false
set_option linter.unusedSimpArgs false

theorem own_lt {base : Nat} {w : World} {a : Option Addr} {n c : Nat} {L : List Int} (h : OwnL base w (.slice a n c) L) : ∀ b o s, a = some ⟨b, o, s⟩ → base ≤ b ∧ b < w.heap.size := by
  intro b o s e
  subst e
  rcases h.2 with ⟨hn, _⟩ | ⟨g, cap, cur, hv, _⟩
  · cases hn
  · cases hv
    exact h.lt rfl
/-- neither the row nor what it names lies in the block -/
def FarU (p : Nat) (a : Option Addr) (U : List Uv) : Prop := (∀ b o s, a = some ⟨b, o, s⟩ → some p ≠ some b) ∧ ∀ u ∈ U, ∀ b o s, u.ad = some ⟨b, o, s⟩ → some p ≠ some b
theorem lists_grown {w w' : World} {p : Nat} {a : Option Addr} {U : List Uv} (h : ListsIs w a U) (hg : w.grownBy w' (some p)) (hf : FarU p a U) : ListsIs w' a U := by
  intro k hk
  obtain ⟨b, off, e, h1, h2⟩ := h k hk
  refine ⟨b, off, e, hg.cell h1 (fun e2 => hf.1 b off none e e2.symm), isu_grow h2 hg (hf.2 _ ?_)⟩
  rw [List.getD_eq_getElem?_getD, List.getElem?_eq_getElem hk]; exact List.getElem_mem _
theorem far_lists {base p c : Nat} {w : World} {a : Option Addr} {U : List Uv} (h : OwnU base w (.slice a U.length c) U) (hp : p < base) : FarU p a U := by
  refine ⟨fun b o s e e2 => ?_, fun u hu b o s e e2 => by have := ((h.2 u hu).2 b o s e).1; have := Option.some.inj e2; omega⟩
  subst e
  rcases h.1.2 with ⟨hn, _⟩ | ⟨g, cap, cur, hv, _⟩
  · cases hn
  · cases hv
    have := (h.lt rfl).1
    have := Option.some.inj e2
    omega
set_option maxRecDepth 100000 in
set_option maxHeartbeats 4000000 in
theorem tquantize_walk (xs : List Int) (a0 : Option Addr) (cap : Nat) (F : List Int) (b1 : Option Addr) (cap1 : Nat) (U0 : List Uv) (b2 : Option Addr) (n2 cap2 : Nat) (sh : Int) (w : World) (hs : SliceIs w a0 xs) (hf : Fits xs) (hl : xs.length ≤ 9223372036854775807) (us : SliceIs w b1 F) (ul : F.length ≤ 9223372036854775807) (vs : ListsIs w b2 U0) (vf : FitsLists U0) (vn : U0.length = n2) (vb : n2 ≤ 9223372036854775807) (hTab : TabZ w) :
    Calls Tryd.prog 5 #[.slice a0 xs.length cap, .slice b1 F.length cap1, .slice b2 n2 cap2, .int .i64 sh] w (TestPost true w) := by
  have hs' := Lib.hid hs
  have hf' := Lib.hid hf
  have hl' := Lib.hid hl
  have HF := Lib.hid us
  have HU := Lib.hid vs
  have HUF := Lib.hid vf
  have EU := Lib.hid vn
  have HT := Lib.hid hTab
  obtain ⟨i0, hi, hi0, hi1, hi2⟩ := info_parts infoI
  have hi' := Lib.hid hi
  have hi0' := Lib.hid hi0
  have hi1' := Lib.hid hi1
  have hi2' := Lib.hid hi2
  obtain ⟨j0, hj, hj0, hj1, hj2⟩ := info_parts infoU
  have hj' := Lib.hid hj
  have hj0' := Lib.hid hj0
  have hj1' := Lib.hid hj1
  have hj2' := Lib.hid hj2
  obtain ⟨n1, en1⟩ : ∃ n1, F.length = n1 := ⟨_, rfl⟩
  have EF := Lib.hid en1
  rw [en1] at ul ⊢
  clear hs hf hl us vs vf vn hTab hi hi0 hi1 hi2 hj hj0 hj1 hj2 en1
  go_enter Tryd.func5, Tryd.ntmps5
  go_wp2_with fail
  refine (new_any a0 cap xs _ hs'.out hf'.out hl'.out).mono ?_; rintro e w1 ⟨rfl, hT1⟩
  replace hT1 : Hid (TapeSome w w1 w.heap.size a0 cap xs) := Lib.hid ⟨0, hT1⟩
  go_wp2_with fail
  go_loopw [10] (fun i wr => ∃ k : Nat, k ≤ 3 ∧ i = .int .i64 k ∧ Hid (TapeSome w wr w.heap.size a0 cap xs)) (fun i _ => 3 - (intOf i).toNat)
  case atStart => exact ⟨0, by omega, rfl, hT1⟩
  case round =>
    clear hT1
    obtain ⟨k, hk, rfl, hT1⟩ := hrel
    by_cases hlt : k < 3
    · have hkI : (k : Int) < 3 := by omega
      have q1k : wrap64 ((k : Int) + 1) = (k : Int) + 1 := by unfold wrap64; omega
      have q4 : k + 1 ≤ 3 := hlt
      go_wp2_with fail
      refine (next_some w w.heap.size a0 cap xs _ _ hT1.out (by omega) (by omega)).mono ?_; rintro e w2 ⟨m0, rfl, hm0, hT2, hg⟩
      have H0 : Hid (QAt w w.heap.size a0 cap xs w2.heap.size (.slice none 0 0) [] (.slice none 0 0) [] w2) := Lib.hid ⟨hT2, hT2.choose_spec.lt, hT2.choose_spec.below.size, Nat.le_refl _, OwnL.nil _ _, OwnU.nil _ _, fun g e => by simp [Value.ownBlock] at e⟩
      obtain ⟨n0, en0⟩ : ∃ n0 : Nat, m0 = n0 := ⟨m0.toNat, by omega⟩
      subst en0
      have hn0 : n0 < 4 := by omega
      clear hg hT1 hT2 hm0
      go_wp2_with fail
      go_loopw [11, 12, 13] (fun xv yv i wr => ∃ (r : Nat) (X : List Int) (U : List Uv), r ≤ 3 ∧ i = .int .i64 r ∧ X.length + r = n0 ∧ U.length + r = n0 ∧ Hid (FitsLists U) ∧ Hid (QAt w w.heap.size a0 cap xs w2.heap.size xv X yv U wr)) (fun _ _ i _ => (intOf i).toNat)
      case atStart => exact ⟨n0, [], [], by omega, rfl, by simp, by simp, Lib.hid (fun k hk => by simp at hk), H0⟩
      case round =>
        clear H0
        obtain ⟨r, X, U, hr, rfl, hX, hU, HFU, HI⟩ := hrel
        by_cases hr0 : 0 < r
        · have hrI : (0 : Int) < r := by omega
          have q1r : wrap64 ((r : Int) - 1) = ((r - 1 : Nat) : Int) := by unfold wrap64; omega
          go_wp2_with fail
          refine (pick_litm (ys := [0, 3, -1, 257]) w w.heap.size a0 cap xs _ _ _ _ HI.out.tape (by simp) (by simp) (by intro j hj; simp at hj; rcases (show j = 0 ∨ j = 1 ∨ j = 2 ∨ j = 3 by omega) with rfl | rfl | rfl | rfl <;> rfl)).mono ?_; rintro e w3 ⟨m, rfl, hm, hT3, hg⟩
          have HI3 := Lib.hid (HI.out.call hT3 hg)
          have L1 := Lib.hid (show X.length + 1 ≤ maxLen by unfold maxLen; omega)
          have L2 := Lib.hid (show (X.length + 1) * 8 ≤ 140737488355328 by omega)
          have L3 : Hid (∀ o : Obj, w2.heap.size ≤ (w3.alloc o).heap.size) := Lib.hid (fun o => by have := HI3.out.hi; simp; omega)
          clear hT3 hg HI hm
          go_wp2_with (at_builtin; go_must (refine wpList_append_lies _ rfl _ _ _ rfl w2.heap.size 3 i0 (.int .i64 0) 1 8 Tryd.underlying22 hi'.out hi0'.out hi1'.out hi2'.out rfl (by decide) u11 X.length (ints X) rfl ((HI3.out.below (balloc (bref _) _)).x) ⟨w3.heap.size, 0, none⟩ 1 1 [.int .i64 m] rfl rfl (World.news_of_block (heap_alloc_new w3 _)) (by intro u hu; simp at hu; subst hu; rfl) (by decide) L1.out L2.out (L3.out _) (w3.heap.size + 1) (by simp) ?_); intro g gc wB hown hgrow hat hlB)
          have HIX := Lib.hid ((HI3.out.below (balloc (bref w3) (.cells #[.int .i64 m] 3))).appX hown hgrow (by simpa using hat) rfl)
          clear hown hgrow hat HI3
          refine (third_some w w.heap.size a0 cap xs _ HIX.out.tape).mono ?_; rintro e w4 ⟨L, g3, c3, rfl, hLn, hLf, hLs, hgb, hT4, hg⟩
          have HI4 := Lib.hid (HIX.out.call hT4 hg)
          have hyl : Hid (∀ q, u12.ownBlock = some q → q < wB.heap.size) := Lib.hid (fun q e => (HIX.out.y.lt e).2)
          have hbw : Hid (w2.heap.size ≤ wB.heap.size) := Lib.hid HIX.out.hi
          have HLs := Lib.hid hLs
          have HLf := Lib.hid hLf
          obtain ⟨l, el⟩ : ∃ l, L.length = l := ⟨_, rfl⟩
          have EL := Lib.hid el
          rw [el]
          have M1 := Lib.hid (show U.length + 1 ≤ maxLen by unfold maxLen; omega)
          have M2 := Lib.hid (show (U.length + 1) * 24 ≤ 140737488355328 by omega)
          have M3 : Hid (∀ o : Obj, w2.heap.size ≤ (w4.alloc o).heap.size) := Lib.hid (fun o => by have := HI4.out.hi; simp; omega)
          have hgl : Hid (g < wB.heap.size ∧ wB.heap.size ≤ g3 ∧ g3 < w4.heap.size) := Lib.hid ⟨hlB, hgb.1, hgb.2⟩
          clear hT4 hg HIX hLn hLf hLs hgb el hlB
          go_wp2_with (at_builtin; go_must (refine wpList_append_lies _ rfl _ _ _ rfl w2.heap.size 42 j0 (.slice none 0 0) 1 24 Tryd.underlying41 hj'.out hj0'.out hj1'.out hj2'.out rfl (by decide) u12 U.length (rowU U) rfl ((HI4.out.below (balloc (bref _) _)).y.1) ⟨w4.heap.size, 0, none⟩ 1 1 [.slice (some ⟨g3, 0, none⟩) l c3] rfl rfl (World.news_of_block (heap_alloc_new w4 _)) (by intro u hu; simp at hu; subst hu; rfl) (by decide) M1.out M2.out (M3.out _) (w4.heap.size + 1) (by simp) ?_); intro g4 gc4 wC hown4 hgrow4 hat4 hlC)
          have HIY := Lib.hid ((HI4.out.below (balloc (bref w4) (.cells #[.slice (some ⟨g3, 0, none⟩) l c3] 42))).appY (u := ⟨some ⟨g3, 0, none⟩, c3, L⟩) (by simp only [Uv.val]; rw [EL.out]; exact hown4) hgrow4 (by simpa using hat4) rfl (isu_below HLs.out (balloc (bref _) _))
            (fun b o s e => by
              cases e
              have h1 := hgl.out
              have h2 := hbw.out
              refine ⟨by omega, fun e2 => ?_, by simp; omega⟩
              have := hyl.out _ e2
              omega)
            (fun b o s e e2 => by
              cases e
              have h1 := hgl.out
              have h3 : g = g3 := Option.some.inj e2
              omega))
          have HFU2 := Lib.hid (fits_more (u := ⟨some ⟨g3, 0, none⟩, c3, L⟩) HFU.out HLf.out)
          clear hown4 hgrow4 hat4 hlC HI4
          go_roundw
          case rel => exact ⟨r - 1, X ++ [m], U ++ [⟨some ⟨g3, 0, none⟩, c3, L⟩], by omega, by (try rw [q1r]) <;> exact congrArg (Value.int .i64) (by omega), by simp; omega, by simp; omega, HFU2, HIY⟩
          case measure => (try rw [q1r]); simp [intOf]; omega
        · obtain rfl : r = 0 := by omega
          go_wp2_with fail
          refine (next_some w w.heap.size a0 cap xs _ _ HI.out.tape (by omega) (by omega)).mono ?_; rintro e w5 ⟨m6, rfl, hm6, hT5, hg⟩
          have HI5 := Lib.hid (HI.out.call hT5 hg)
          clear hg hT5 HI
          have hpb : Hid (w.heap.size < w2.heap.size) := Lib.hid HI5.out.lo
          by_cases h5 : m6 = 5
          · subst h5
            have L1 := Lib.hid (show X.length + 1 ≤ maxLen by unfold maxLen; omega)
            have L2 := Lib.hid (show (X.length + 1) * 8 ≤ 140737488355328 by omega)
            have L3 : Hid (∀ o : Obj, w2.heap.size ≤ (w5.alloc o).heap.size) := Lib.hid (fun o => by have := HI5.out.hi; simp; omega)
            go_wp2_with (at_builtin; go_must (refine wpList_append_lies _ rfl _ _ _ rfl w2.heap.size 3 i0 (.int .i64 0) 1 8 Tryd.underlying22 hi'.out hi0'.out hi1'.out hi2'.out rfl (by decide) u11 X.length (ints X) rfl ((HI5.out.below (balloc (bref _) _)).x) ⟨w5.heap.size, 0, none⟩ 1 1 [.int .i64 1] rfl rfl (World.news_of_block (heap_alloc_new w5 _)) (by intro u hu; simp at hu; subst hu; rfl) (by decide) L1.out L2.out (L3.out _) (w5.heap.size + 1) (by simp) ?_); intro g gc wB hown hgrow hat hlB)
            have HIX := Lib.hid ((HI5.out.below (balloc (bref w5) (.cells #[.int .i64 1] 3))).appX hown hgrow (by simpa using hat) rfl)
            clear hown hgrow hat HI5 hlB
            obtain ⟨ay, cy, ey, hay⟩ := HIX.out.y.lists
            subst ey
            obtain ⟨ax, cx, ex, hax⟩ := HIX.out.x.slice
            have eax : ax = some ⟨g, 0, none⟩ := by injection ex with h1; exact h1.symm
            subst eax
            have TQ := Lib.hid HIX.out.tape
            have AX := Lib.hid hax
            have AY := Lib.hid hay
            have NX : Hid (∀ b o s, (some ⟨g, 0, none⟩ : Option Addr) = some ⟨b, o, s⟩ → some w.heap.size ≠ some b) := Lib.hid (fun b o s e e2 => by
              have := own_lt HIX.out.x b o s e
              have h4 := hpb.out
              have h6 := Option.some.inj e2
              omega)
            have NY := Lib.hid (far_lists HIX.out.y hpb.out)
            obtain ⟨XX, eXX⟩ : ∃ XX, X ++ [1] = XX := ⟨_, rfl⟩
            rw [eXX] at AX
            obtain ⟨lx, elx⟩ : ∃ l, X.length + 1 = l := ⟨_, rfl⟩
            have EX : Hid (XX.length = lx) := Lib.hid (by rw [← eXX, ← elx]; simp)
            obtain ⟨ly, ely⟩ : ∃ l, U.length = l := ⟨_, rfl⟩
            have EY := Lib.hid ely
            clear ex hax hay HIX
            rw [elx, ely]
            clear eXX elx ely
            go_wp2_with fail
            refine (next_some w w.heap.size a0 cap xs _ _ TQ.out (by omega) (by omega)).mono ?_; rintro e w7 ⟨ms, rfl, hms, hT7, hg⟩
            obtain ⟨s, es⟩ : ∃ s, ms - 1 = s := ⟨_, rfl⟩
            have ws : wrap64 (ms - 1) = s := by unfold wrap64; omega
            have A7 := Lib.hid (is_grown AX.out hg NX.out)
            have B7 := Lib.hid (lists_grown AY.out hg NY.out)
            have P7 := Lib.hid hT7
            clear hg hT7 es hms
            by_cases hk2 : (k : Int) = 2
            · by_cases hA : (n2 : Int) ≤ 200
              · by_cases hB : (n1 : Int) ≤ 200
                · have A8 := Lib.hid (is_below HF.out (tape_below P7.out))
                  have B8 := Lib.hid (lists_below HU.out (tape_below P7.out))
                  obtain ⟨T, eT⟩ : ∃ T, qtT F (U0.map Uv.L) sh = T := ⟨_, rfl⟩
                  obtain ⟨c, eC⟩ : ∃ c, qtC F (U0.map Uv.L) sh = c := ⟨_, rfl⟩
                  have sT := Lib.hid (qt_small F (U0.map Uv.L) sh)
                  rw [eT] at sT
                  have ET := Lib.hid eT
                  have EC := Lib.hid eC
                  clear eT eC
                  go_wp2_with fail
                  refine (tquant_any F U0 sh _ _ _ _ _ _ _ A8.out B8.out HUF.out EF.out EU.out (tape_tab HT.out P7.out)).mono ?_; rintro e z1 ⟨t1, V1, rfl, hV, hO, hb⟩
                  rw [ET.out] at hV
                  rw [EC.out]
                  have A1 := Lib.hid (is_below A8.out hb)
                  have B1 := Lib.hid (lists_below B8.out hb)
                  have P1 := Lib.hid (tape_more P7.out hb)
                  have HV1 := Lib.hid hV
                  have HO1 := Lib.hid hO
                  clear hV hO hb
                  go_wp2_with fail
                  refine (rtquant_l F U0 sh _ _ _ _ _ _ _ A1.out B1.out HUF.out EF.out EU.out).mono ?_; rintro e z2 ⟨t2, V2, rfl, hV, hO, hb⟩
                  rw [ET.out] at hV
                  rw [EC.out]
                  have P2 := Lib.hid (tape_more P1.out hb)
                  have HV2 := Lib.hid hV
                  have HO2 := Lib.hid hO
                  have HO3 := Lib.hid (HO1.out.below hb)
                  clear hV hO hb P1 HO1
                  go_wp2_with fail
                  refine (tsame_true HV1.out HV2.out sT.out HO3.out HO2.out).mono ?_; rintro e z3 ⟨rfl, hb⟩
                  have P3 := Lib.hid (tape_more P2.out hb)
                  clear hb P2 HO2 HO3
                  go_wp2_with fail
                  exact ⟨⟨k + 1, q4, by (try rw [q1k]); exact congrArg (Value.int .i64) (by omega), P3⟩, by (try rw [q1k]); first | exact down_meas hlt | (simp [intOf]; omega)⟩
                · obtain ⟨T, eT⟩ : ∃ T, qtT XX (U.map Uv.L) s = T := ⟨_, rfl⟩
                  obtain ⟨c, eC⟩ : ∃ c, qtC XX (U.map Uv.L) s = c := ⟨_, rfl⟩
                  have sT := Lib.hid (qt_small XX (U.map Uv.L) s)
                  rw [eT] at sT
                  have ET := Lib.hid eT
                  have EC := Lib.hid eC
                  clear eT eC
                  go_wp2_with fail
                  refine (tquant_any XX U s _ _ _ _ _ _ _ A7.out B7.out HFU.out EX.out EY.out (tape_tab HT.out P7.out)).mono ?_; rintro e z1 ⟨t1, V1, rfl, hV, hO, hb⟩
                  rw [ET.out] at hV
                  rw [EC.out]
                  have A1 := Lib.hid (is_below A7.out hb)
                  have B1 := Lib.hid (lists_below B7.out hb)
                  have P1 := Lib.hid (tape_more P7.out hb)
                  have HV1 := Lib.hid hV
                  have HO1 := Lib.hid hO
                  clear hV hO hb
                  go_wp2_with fail
                  refine (rtquant_l XX U s _ _ _ _ _ _ _ A1.out B1.out HFU.out EX.out EY.out).mono ?_; rintro e z2 ⟨t2, V2, rfl, hV, hO, hb⟩
                  rw [ET.out] at hV
                  rw [EC.out]
                  have P2 := Lib.hid (tape_more P1.out hb)
                  have HV2 := Lib.hid hV
                  have HO2 := Lib.hid hO
                  have HO3 := Lib.hid (HO1.out.below hb)
                  clear hV hO hb P1 HO1
                  go_wp2_with fail
                  refine (tsame_true HV1.out HV2.out sT.out HO3.out HO2.out).mono ?_; rintro e z3 ⟨rfl, hb⟩
                  have P3 := Lib.hid (tape_more P2.out hb)
                  clear hb P2 HO2 HO3
                  go_wp2_with fail
                  exact ⟨⟨k + 1, q4, by (try rw [q1k]); exact congrArg (Value.int .i64) (by omega), P3⟩, by (try rw [q1k]); first | exact down_meas hlt | (simp [intOf]; omega)⟩
              · obtain ⟨T, eT⟩ : ∃ T, qtT XX (U.map Uv.L) s = T := ⟨_, rfl⟩
                obtain ⟨c, eC⟩ : ∃ c, qtC XX (U.map Uv.L) s = c := ⟨_, rfl⟩
                have sT := Lib.hid (qt_small XX (U.map Uv.L) s)
                rw [eT] at sT
                have ET := Lib.hid eT
                have EC := Lib.hid eC
                clear eT eC
                go_wp2_with fail
                refine (tquant_any XX U s _ _ _ _ _ _ _ A7.out B7.out HFU.out EX.out EY.out (tape_tab HT.out P7.out)).mono ?_; rintro e z1 ⟨t1, V1, rfl, hV, hO, hb⟩
                rw [ET.out] at hV
                rw [EC.out]
                have A1 := Lib.hid (is_below A7.out hb)
                have B1 := Lib.hid (lists_below B7.out hb)
                have P1 := Lib.hid (tape_more P7.out hb)
                have HV1 := Lib.hid hV
                have HO1 := Lib.hid hO
                clear hV hO hb
                go_wp2_with fail
                refine (rtquant_l XX U s _ _ _ _ _ _ _ A1.out B1.out HFU.out EX.out EY.out).mono ?_; rintro e z2 ⟨t2, V2, rfl, hV, hO, hb⟩
                rw [ET.out] at hV
                rw [EC.out]
                have P2 := Lib.hid (tape_more P1.out hb)
                have HV2 := Lib.hid hV
                have HO2 := Lib.hid hO
                have HO3 := Lib.hid (HO1.out.below hb)
                clear hV hO hb P1 HO1
                go_wp2_with fail
                refine (tsame_true HV1.out HV2.out sT.out HO3.out HO2.out).mono ?_; rintro e z3 ⟨rfl, hb⟩
                have P3 := Lib.hid (tape_more P2.out hb)
                clear hb P2 HO2 HO3
                go_wp2_with fail
                exact ⟨⟨k + 1, q4, by (try rw [q1k]); exact congrArg (Value.int .i64) (by omega), P3⟩, by (try rw [q1k]); first | exact down_meas hlt | (simp [intOf]; omega)⟩
            · have hk2b : ((k : Int) == 2) = false := by simpa using hk2
              obtain ⟨T, eT⟩ : ∃ T, qtT XX (U.map Uv.L) s = T := ⟨_, rfl⟩
              obtain ⟨c, eC⟩ : ∃ c, qtC XX (U.map Uv.L) s = c := ⟨_, rfl⟩
              have sT := Lib.hid (qt_small XX (U.map Uv.L) s)
              rw [eT] at sT
              have ET := Lib.hid eT
              have EC := Lib.hid eC
              clear eT eC
              go_wp2_with fail
              refine (tquant_any XX U s _ _ _ _ _ _ _ A7.out B7.out HFU.out EX.out EY.out (tape_tab HT.out P7.out)).mono ?_; rintro e z1 ⟨t1, V1, rfl, hV, hO, hb⟩
              rw [ET.out] at hV
              rw [EC.out]
              have A1 := Lib.hid (is_below A7.out hb)
              have B1 := Lib.hid (lists_below B7.out hb)
              have P1 := Lib.hid (tape_more P7.out hb)
              have HV1 := Lib.hid hV
              have HO1 := Lib.hid hO
              clear hV hO hb
              go_wp2_with fail
              refine (rtquant_l XX U s _ _ _ _ _ _ _ A1.out B1.out HFU.out EX.out EY.out).mono ?_; rintro e z2 ⟨t2, V2, rfl, hV, hO, hb⟩
              rw [ET.out] at hV
              rw [EC.out]
              have P2 := Lib.hid (tape_more P1.out hb)
              have HV2 := Lib.hid hV
              have HO2 := Lib.hid hO
              have HO3 := Lib.hid (HO1.out.below hb)
              clear hV hO hb P1 HO1
              go_wp2_with fail
              refine (tsame_true HV1.out HV2.out sT.out HO3.out HO2.out).mono ?_; rintro e z3 ⟨rfl, hb⟩
              have P3 := Lib.hid (tape_more P2.out hb)
              clear hb P2 HO2 HO3
              go_wp2_with fail
              exact ⟨⟨k + 1, q4, by (try rw [q1k]); exact congrArg (Value.int .i64) (by omega), P3⟩, by (try rw [q1k]); first | exact down_meas hlt | (simp [intOf]; omega)⟩
          · have h5b : (m6 == 5) = false := by simpa using h5
            obtain ⟨ay, cy, ey, hay⟩ := HI5.out.y.lists
            obtain ⟨ax, cx, ex, hax⟩ := HI5.out.x.slice
            have NY := Lib.hid (far_lists (a := ay) (U := U) (c := cy) (by rw [← ey]; exact HI5.out.y) hpb.out)
            have NX0 := Lib.hid (own_lt (a := ax) (n := X.length) (c := cx) (by rw [← ex]; exact HI5.out.x))
            subst ey
            subst ex
            have TQ := Lib.hid HI5.out.tape
            have AX := Lib.hid hax
            have AY := Lib.hid hay
            have NX : Hid (∀ b o s, ax = some ⟨b, o, s⟩ → some w.heap.size ≠ some b) := Lib.hid (fun b o s e e2 => by
              have := NX0.out b o s e
              have h4 := hpb.out
              have h6 := Option.some.inj e2
              omega)
            obtain ⟨lx, elx⟩ : ∃ l, X.length = l := ⟨_, rfl⟩
            have EX := Lib.hid elx
            obtain ⟨ly, ely⟩ : ∃ l, U.length = l := ⟨_, rfl⟩
            have EY := Lib.hid ely
            clear hax hay HI5
            rw [elx, ely]
            clear elx ely
            go_wp2_with fail
            refine (next_some w w.heap.size a0 cap xs _ _ TQ.out (by omega) (by omega)).mono ?_; rintro e w7 ⟨ms, rfl, hms, hT7, hg⟩
            obtain ⟨s, es⟩ : ∃ s, ms - 1 = s := ⟨_, rfl⟩
            have ws : wrap64 (ms - 1) = s := by unfold wrap64; omega
            have A7 := Lib.hid (is_grown AX.out hg NX.out)
            have B7 := Lib.hid (lists_grown AY.out hg NY.out)
            have P7 := Lib.hid hT7
            clear hg hT7 es hms
            by_cases hk2 : (k : Int) = 2
            · by_cases hA : (n2 : Int) ≤ 200
              · by_cases hB : (n1 : Int) ≤ 200
                · have A8 := Lib.hid (is_below HF.out (tape_below P7.out))
                  have B8 := Lib.hid (lists_below HU.out (tape_below P7.out))
                  obtain ⟨T, eT⟩ : ∃ T, qtT F (U0.map Uv.L) sh = T := ⟨_, rfl⟩
                  obtain ⟨c, eC⟩ : ∃ c, qtC F (U0.map Uv.L) sh = c := ⟨_, rfl⟩
                  have sT := Lib.hid (qt_small F (U0.map Uv.L) sh)
                  rw [eT] at sT
                  have ET := Lib.hid eT
                  have EC := Lib.hid eC
                  clear eT eC
                  go_wp2_with fail
                  refine (tquant_any F U0 sh _ _ _ _ _ _ _ A8.out B8.out HUF.out EF.out EU.out (tape_tab HT.out P7.out)).mono ?_; rintro e z1 ⟨t1, V1, rfl, hV, hO, hb⟩
                  rw [ET.out] at hV
                  rw [EC.out]
                  have A1 := Lib.hid (is_below A8.out hb)
                  have B1 := Lib.hid (lists_below B8.out hb)
                  have P1 := Lib.hid (tape_more P7.out hb)
                  have HV1 := Lib.hid hV
                  have HO1 := Lib.hid hO
                  clear hV hO hb
                  go_wp2_with fail
                  refine (rtquant_l F U0 sh _ _ _ _ _ _ _ A1.out B1.out HUF.out EF.out EU.out).mono ?_; rintro e z2 ⟨t2, V2, rfl, hV, hO, hb⟩
                  rw [ET.out] at hV
                  rw [EC.out]
                  have P2 := Lib.hid (tape_more P1.out hb)
                  have HV2 := Lib.hid hV
                  have HO2 := Lib.hid hO
                  have HO3 := Lib.hid (HO1.out.below hb)
                  clear hV hO hb P1 HO1
                  go_wp2_with fail
                  refine (tsame_true HV1.out HV2.out sT.out HO3.out HO2.out).mono ?_; rintro e z3 ⟨rfl, hb⟩
                  have P3 := Lib.hid (tape_more P2.out hb)
                  clear hb P2 HO2 HO3
                  go_wp2_with fail
                  exact ⟨⟨k + 1, q4, by (try rw [q1k]); exact congrArg (Value.int .i64) (by omega), P3⟩, by (try rw [q1k]); first | exact down_meas hlt | (simp [intOf]; omega)⟩
                · obtain ⟨T, eT⟩ : ∃ T, qtT X (U.map Uv.L) s = T := ⟨_, rfl⟩
                  obtain ⟨c, eC⟩ : ∃ c, qtC X (U.map Uv.L) s = c := ⟨_, rfl⟩
                  have sT := Lib.hid (qt_small X (U.map Uv.L) s)
                  rw [eT] at sT
                  have ET := Lib.hid eT
                  have EC := Lib.hid eC
                  clear eT eC
                  go_wp2_with fail
                  refine (tquant_any X U s _ _ _ _ _ _ _ A7.out B7.out HFU.out EX.out EY.out (tape_tab HT.out P7.out)).mono ?_; rintro e z1 ⟨t1, V1, rfl, hV, hO, hb⟩
                  rw [ET.out] at hV
                  rw [EC.out]
                  have A1 := Lib.hid (is_below A7.out hb)
                  have B1 := Lib.hid (lists_below B7.out hb)
                  have P1 := Lib.hid (tape_more P7.out hb)
                  have HV1 := Lib.hid hV
                  have HO1 := Lib.hid hO
                  clear hV hO hb
                  go_wp2_with fail
                  refine (rtquant_l X U s _ _ _ _ _ _ _ A1.out B1.out HFU.out EX.out EY.out).mono ?_; rintro e z2 ⟨t2, V2, rfl, hV, hO, hb⟩
                  rw [ET.out] at hV
                  rw [EC.out]
                  have P2 := Lib.hid (tape_more P1.out hb)
                  have HV2 := Lib.hid hV
                  have HO2 := Lib.hid hO
                  have HO3 := Lib.hid (HO1.out.below hb)
                  clear hV hO hb P1 HO1
                  go_wp2_with fail
                  refine (tsame_true HV1.out HV2.out sT.out HO3.out HO2.out).mono ?_; rintro e z3 ⟨rfl, hb⟩
                  have P3 := Lib.hid (tape_more P2.out hb)
                  clear hb P2 HO2 HO3
                  go_wp2_with fail
                  exact ⟨⟨k + 1, q4, by (try rw [q1k]); exact congrArg (Value.int .i64) (by omega), P3⟩, by (try rw [q1k]); first | exact down_meas hlt | (simp [intOf]; omega)⟩
              · obtain ⟨T, eT⟩ : ∃ T, qtT X (U.map Uv.L) s = T := ⟨_, rfl⟩
                obtain ⟨c, eC⟩ : ∃ c, qtC X (U.map Uv.L) s = c := ⟨_, rfl⟩
                have sT := Lib.hid (qt_small X (U.map Uv.L) s)
                rw [eT] at sT
                have ET := Lib.hid eT
                have EC := Lib.hid eC
                clear eT eC
                go_wp2_with fail
                refine (tquant_any X U s _ _ _ _ _ _ _ A7.out B7.out HFU.out EX.out EY.out (tape_tab HT.out P7.out)).mono ?_; rintro e z1 ⟨t1, V1, rfl, hV, hO, hb⟩
                rw [ET.out] at hV
                rw [EC.out]
                have A1 := Lib.hid (is_below A7.out hb)
                have B1 := Lib.hid (lists_below B7.out hb)
                have P1 := Lib.hid (tape_more P7.out hb)
                have HV1 := Lib.hid hV
                have HO1 := Lib.hid hO
                clear hV hO hb
                go_wp2_with fail
                refine (rtquant_l X U s _ _ _ _ _ _ _ A1.out B1.out HFU.out EX.out EY.out).mono ?_; rintro e z2 ⟨t2, V2, rfl, hV, hO, hb⟩
                rw [ET.out] at hV
                rw [EC.out]
                have P2 := Lib.hid (tape_more P1.out hb)
                have HV2 := Lib.hid hV
                have HO2 := Lib.hid hO
                have HO3 := Lib.hid (HO1.out.below hb)
                clear hV hO hb P1 HO1
                go_wp2_with fail
                refine (tsame_true HV1.out HV2.out sT.out HO3.out HO2.out).mono ?_; rintro e z3 ⟨rfl, hb⟩
                have P3 := Lib.hid (tape_more P2.out hb)
                clear hb P2 HO2 HO3
                go_wp2_with fail
                exact ⟨⟨k + 1, q4, by (try rw [q1k]); exact congrArg (Value.int .i64) (by omega), P3⟩, by (try rw [q1k]); first | exact down_meas hlt | (simp [intOf]; omega)⟩
            · have hk2b : ((k : Int) == 2) = false := by simpa using hk2
              obtain ⟨T, eT⟩ : ∃ T, qtT X (U.map Uv.L) s = T := ⟨_, rfl⟩
              obtain ⟨c, eC⟩ : ∃ c, qtC X (U.map Uv.L) s = c := ⟨_, rfl⟩
              have sT := Lib.hid (qt_small X (U.map Uv.L) s)
              rw [eT] at sT
              have ET := Lib.hid eT
              have EC := Lib.hid eC
              clear eT eC
              go_wp2_with fail
              refine (tquant_any X U s _ _ _ _ _ _ _ A7.out B7.out HFU.out EX.out EY.out (tape_tab HT.out P7.out)).mono ?_; rintro e z1 ⟨t1, V1, rfl, hV, hO, hb⟩
              rw [ET.out] at hV
              rw [EC.out]
              have A1 := Lib.hid (is_below A7.out hb)
              have B1 := Lib.hid (lists_below B7.out hb)
              have P1 := Lib.hid (tape_more P7.out hb)
              have HV1 := Lib.hid hV
              have HO1 := Lib.hid hO
              clear hV hO hb
              go_wp2_with fail
              refine (rtquant_l X U s _ _ _ _ _ _ _ A1.out B1.out HFU.out EX.out EY.out).mono ?_; rintro e z2 ⟨t2, V2, rfl, hV, hO, hb⟩
              rw [ET.out] at hV
              rw [EC.out]
              have P2 := Lib.hid (tape_more P1.out hb)
              have HV2 := Lib.hid hV
              have HO2 := Lib.hid hO
              have HO3 := Lib.hid (HO1.out.below hb)
              clear hV hO hb P1 HO1
              go_wp2_with fail
              refine (tsame_true HV1.out HV2.out sT.out HO3.out HO2.out).mono ?_; rintro e z3 ⟨rfl, hb⟩
              have P3 := Lib.hid (tape_more P2.out hb)
              clear hb P2 HO2 HO3
              go_wp2_with fail
              exact ⟨⟨k + 1, q4, by (try rw [q1k]); exact congrArg (Value.int .i64) (by omega), P3⟩, by (try rw [q1k]); first | exact down_meas hlt | (simp [intOf]; omega)⟩
    · obtain rfl : k = 3 := by omega
      go_wp2_with fail
      refine (sane_is _ (tape_tab HT.out hT1.out)).mono ?_; rintro e w6 ⟨rfl, hb⟩
      have hfin := Lib.hid (bthen (tape_below hT1.out) hb)
      clear hb
      go_wp2_with fail
      go_returns
      exact ⟨rfl, hfin.out⟩
namespace tablesQuantize
theorem own : ownKnob Tryd.prog.godebug = none := by kernel_rfl
theorem laid : laidOutB Tryd.prog = true := by kernel_rfl
theorem params_ok : ∀ t ∈ Tryd.f5.params.toList, Tryd.prog.readableRec t = true ∧ t < Tryd.prog.types.size := by
  rw [Tryd.params5]
  intro t ht
  simp at ht
  rcases ht with rfl | rfl | rfl | rfl <;> exact ⟨by kernel_rfl, of_decide_eq_true (by kernel_rfl)⟩
set_option maxRecDepth 100000 in
theorem lifted (os : Os) (started : os.Started) (H : Type) (enc : TypeId × Value → H) :
    ReturnsInHanded {} Tryd.checked os 5 .any (fun w args => (Rows.tablesQuantizeSpec.pre enc Tryd.prog Tryd.f5 Rows.tablesQuantizeRow.domain false w args ∧ laidMetH Tryd.prog Rows.tablesQuantizeRow.laid w) ∧ sizedMet enc Tryd.prog Tryd.f5 (OpenSpec.ofChange Rows.tablesQuantizeSpec) false w args) (Rows.tablesQuantizeSpec.post enc Tryd.prog Tryd.f5 false true false false) := by
  refine returnsInHanded_of_change_and (C := Tryd.checked) (X := fun w _ => laidMetH Tryd.prog Rows.tablesQuantizeRow.laid w) (fun _ _ _ hh h => h.of_heap hh) own started (by kernel_rfl) Tryd.func5
    (ChangeSpec.witness_shaped (enc := enc) (C := Tryd.checked) (os := os) (X := fun w _ => laidMetH Tryd.prog Rows.tablesQuantizeRow.laid w) false (World.laidAll Tryd.prog os Rows.tablesQuantizeRow.laid) #[.slice none 0 0, .slice none 0 0, .slice none 0 0, .int .i64 0] 8 (World.laidAll_os _ _ _)
      (World.shaped_of_ZipB (by kernel_rfl) (by kernel_rfl)) (by kernel_rfl) (by kernel_rfl) (by kernel_rfl)
      (by rw [MakeChecks.laidMetH_plain _ _ _ (by kernel_rfl)]; exact laidMet_laidAll _ (by kernel_rfl) (by kernel_rfl))) ?_
  intro W base args ds gs before hval0 hW hcnd _ hL _
  have hval : ∀ (j : Nat) t v, Tryd.f5.params[j]? = some t → args[j]? = some v → Value.okWide Tryd.prog W .any base t v := hval0
  have hW' := hW
  obtain ⟨p, q, hA0, hV, rfl, hfz, hnd⟩ := hW
  have hA : DataW.TrodAll enc Tryd.prog W 0 (fun _ => true) true Tryd.f5.params.toList args.toList ds p := hA0
  rw [Tryd.params5] at hA hval
  obtain ⟨v0, vs0, d0, ds0, p0, q0, hargs, rfl, rfl, h0, r0⟩ := trodAll_cons hA
  obtain ⟨v1, vs1, d1, ds1, p1, q1, rfl, rfl, rfl, h1, r1⟩ := trodAll_cons r0
  obtain ⟨v2, vs2, d2, ds2, p2, q2, rfl, rfl, rfl, h2, r2⟩ := trodAll_cons r1
  obtain ⟨v3, vs3, d3, ds3, p3, q3, rfl, rfl, rfl, h3, r3⟩ := trodAll_cons r2
  obtain ⟨rfl, rfl, rfl⟩ := trodAll_nil r3
  obtain rfl : args = #[v0, v1, v2, v3] := by cases args; simp_all
  obtain ⟨rfl, rfl⟩ := trodVars_none hV
  obtain ⟨a0, len, cap, rfl⟩ := okWide_slice Tryd.underlying22 (hval 0 22 v0 rfl rfl)
  obtain ⟨xs, rfl, hs, hf, hl⟩ := open_list h0
  obtain ⟨b1, len1, d1c, rfl⟩ := okWide_slice Tryd.underlying22 (hval 1 22 v1 rfl rfl)
  obtain ⟨ys1, rfl, us1, uf1, ul1⟩ := open_list h1
  obtain ⟨b2, len2, d2c, rfl⟩ := okWide_slice Tryd.underlying41 (hval 2 41 v2 rfl rfl)
  obtain ⟨vt2, et2, tt2, tf2, tb2⟩ := open_lists h2
  obtain ⟨i3, rfl, rfl, rfl, w3⟩ := open_int Tryd.underlying3 (hval 3 3 v3 rfl rfl) h3
  clear hA0 hval0
  have fin : Calls Tryd.prog 5 #[.slice a0 xs.length cap, .slice b1 ys1.length d1c, .slice b2 len2 d2c, .int .i64 i3] W (TestPost true W) := tquantize_walk xs a0 cap ys1 b1 d1c vt2 b2 len2 d2c i3 W hs hf hl us1 ul1 tt2 tf2 et2.symm (by rw [et2]; exact tb2) (tab_laid hL)
  refine fin.mono fun e W' ⟨he, hb⟩ => ?_
  subst he
  exact ⟨_, rfl, law_post laid rfl Tryd.underlying4 params_ok rfl hW' rfl hb⟩

theorem over : Rows.tablesQuantizeRow.holds Tryd.pinned (OpenSpec.ofChange Rows.tablesQuantizeSpec) :=
  OpenClaim.holds_of_wide 5 Tryd.f5 rfl rfl rfl rfl rfl rfl rfl ⟨rfl, rfl, rfl, rfl, rfl⟩ rfl rfl rfl rfl rfl (by kernel_rfl) Tryd.func5 (by kernel_rfl)
    (of_decide_eq_true (by kernel_rfl)) (by unfold Func.isWrapper; first | (rw [if_pos (by decide +kernel)]; kernel_rfl) | (rw [if_neg (by decide +kernel)]; exact ⟨rfl, rfl⟩))
    (fun os started H enc _ => lifted os started H enc)

/-- the statement -/
theorem proved : Rows.TablesQuantizeCardSaid :=
  Claim7.holds_tied_plain_at .later [] [.data] true Rows.tablesQuantizeCard.stood.harness false over (fun _ h => by cases h) (by kernel_rfl) (fun _ h => by cases h) tablesQuantize_row_tie rfl ⟨rfl, rfl⟩ (by kernel_rfl) rfl
    (fun f fn hf hfn => by
      obtain rfl : f = 5 := Option.some.inj ((show Tryd.prog.funcNamed "tilefarm/tilefarmlaw8.TablesQuantize" = some 5 by kernel_rfl).symm.trans hf) |>.symm
      obtain rfl : fn = Tryd.f5 := (Option.some.inj (Tryd.func5.symm.trans hfn)).symm
      exact ⟨by kernel_rfl, fun j t ht => by
        rw [Tryd.params5] at ht
        have hm : t ∈ [22, 22, 41, 3] := by simpa using Array.mem_of_getElem? ht
        have hall : ([22, 22, 41, 3].all fun u => !Tryd.prog.wantsStandIn u) = true := by kernel_rfl
        exact (show Tryd.prog.wantsStandIn t = false by simpa using List.all_eq_true.1 hall t hm)⟩)
    (by kernel_rfl)
#print axioms proved
end tablesQuantize
end Go.Proofs.YtjmdpebocchdhaaDoor
