/- The statement RectPoints: for every list of ints and every two ints the law function returns true and leaves its arguments as they were. No condition. -/
import Derived.Test.YtbdedlmpcdelfaaList
import Derived.Test.YtbdedlmpcdelfaaRIs
import Derived.Test.YtbdedlmpcdelfaaRect
import Derived.Test.YtbdedlmpcdelfaaRPointPlain
namespace Go.Proofs.Ytbdedlmpcdelfaa
open Go.ChangeShapes Go.WideShapes Go.ChangeAt Go.RowKit
set_option linter.unusedVariables false
set_option linter.unusedSimpArgs false

set_option maxRecDepth 100000 in
set_option maxHeartbeats 16000000 in
theorem points_walk (xs : List Int) (a0 : Option Addr) (cap : Nat) (x y : Int) (w : World) (hs : SliceIs w a0 xs) (hf : Fits xs) (hl : xs.length ≤ 9223372036854775807) (x0 : -9223372036854775808 ≤ x) (x1 : x ≤ 9223372036854775807) (y0 : -9223372036854775808 ≤ y) (y1 : y ≤ 9223372036854775807) :
    Calls Try.prog 5 #[.slice a0 xs.length cap, .int .i64 x, .int .i64 y] w (TestPost true w) := by
  have hs' := Lib.hid hs
  have hf' := Lib.hid hf
  have hl' := Lib.hid hl
  clear hs hf hl
  go_enter Try.func5, Try.ntmps5
  go_wp2_with fail
  refine (new_any a0 cap xs _ hs'.out hf'.out hl'.out).mono ?_; rintro e w1 ⟨rfl, hT⟩
  replace hT : Hid (TapeSome w w1 w.heap.size a0 cap xs) := Lib.hid ⟨0, hT⟩
  go_wp2_with fail
  refine (rect_some w w.heap.size a0 cap xs _ hT.out).mono ?_; rintro e w2 ⟨a, b, c, d, rfl, hbd, hT2, hg⟩; replace hT2 := Lib.hid hT2; clear hg hT hbd
  go_wp2_with fail
  refine (rect_some w w.heap.size a0 cap xs _ hT2.out).mono ?_; rintro e w3 ⟨a', b', c', d', rfl, hbd, hT3, hg⟩; replace hT3 := Lib.hid hT3; clear hg hT2 hbd
  have HB := Lib.hid (show Below w.heap.size w w3 from by obtain ⟨k, hk⟩ := hT3.out; exact hk.below)
  have hS := Lib.hid (inS_start0 w3 a b c d a' b' c' d' 26 26)
  clear hT3 hs' hf' hl'
  go_upto_region 3 with fail
  obtain ⟨w4, e4⟩ : ∃ w4, w4 = (w3.alloc (.cells #[.int .i64 a, .int .i64 b, .int .i64 c, .int .i64 d] 26)).alloc (.cells #[.int .i64 a', .int .i64 b', .int .i64 c', .int .i64 d'] 26) := ⟨_, rfl⟩
  rw [← e4] at hS ⊢
  clear e4
  obtain ⟨-, k1, k2, k3, k4, k5, k6, k7, k8⟩ := hS.out
  rcases hv : validB a b c d with _ | _
  · have hv' := Lib.hid hv
    clear hv
    go_wp2_with fail
    refine (rvalid_is hv'.out _).mono ?_; rintro e w5 ⟨rfl, hb⟩
    replace hS := Lib.hid (inS_keep hb hS.out)
    clear hb k1 k2 k3 k4 k5 k6 k7 k8
    go_wp2_with fail
    refine (sane_any _).mono ?_; rintro e w6 ⟨rfl, hb⟩
    go_wp2_with fail
    go_ret
    exact ⟨rfl, bthen (bthen HB.out hS.out.1) hb⟩
  · rcases hu : validB a' b' c' d' with _ | _
    · have hv' := Lib.hid hv
      have hu' := Lib.hid hu
      clear hv hu
      go_wp2_with fail
      refine (rvalid_is hv'.out _).mono ?_; rintro e w5 ⟨rfl, hb⟩
      replace hS := Lib.hid (inS_keep hb hS.out)
      clear hb k1 k2 k3 k4 k5 k6 k7 k8
      obtain ⟨-, k1, k2, k3, k4, k5, k6, k7, k8⟩ := hS.out
      go_wp2_with fail
      refine (rvalid_is hu'.out _).mono ?_; rintro e w6 ⟨rfl, hb⟩
      replace hS := Lib.hid (inS_keep hb hS.out)
      clear hb k1 k2 k3 k4 k5 k6 k7 k8
      go_wp2_with fail
      refine (sane_any _).mono ?_; rintro e w7 ⟨rfl, hb⟩
      go_wp2_with fail
      go_ret
      exact ⟨rfl, bthen (bthen HB.out hS.out.1) hb⟩
    · obtain ⟨L, hL⟩ : ∃ L, subL a b c d a' b' c' d' = L := ⟨_, rfl⟩
      obtain ⟨p, q, r, s, hR⟩ : ∃ p q r s, interR a b c d a' b' c' d' = ⟨p, q, r, s⟩ := ⟨_, _, _, _, rfl⟩
      obtain ⟨p', q', r', s', hH⟩ : ∃ p q r s, hullR a b c d a' b' c' d' = ⟨p, q, r, s⟩ := ⟨_, _, _, _, rfl⟩
      have hLen : L.length ≤ 4 := hL ▸ sub_len _ _ _ _ _ _ _ _
      have hv' := Lib.hid hv
      have hu' := Lib.hid hu
      have hL' := Lib.hid hL
      have hR' := Lib.hid hR
      have hH' := Lib.hid hH
      clear hv hu hL hR hH
      go_wp2_with fail
      refine (rvalid_is hv'.out _).mono ?_; rintro e w5 ⟨rfl, hb⟩
      replace hS := Lib.hid (inS_keep hb hS.out)
      clear hb k1 k2 k3 k4 k5 k6 k7 k8
      obtain ⟨-, k1, k2, k3, k4, k5, k6, k7, k8⟩ := hS.out
      go_wp2_with fail
      refine (rvalid_is hu'.out _).mono ?_; rintro e w6 ⟨rfl, hb⟩
      replace hS := Lib.hid (inS_keep hb hS.out)
      clear hb k1 k2 k3 k4 k5 k6 k7 k8
      obtain ⟨-, k1, k2, k3, k4, k5, k6, k7, k8⟩ := hS.out
      go_wp2_with fail
      refine (mod_any _ _ _ (by omega) (by omega) x0 x1).mono ?_; rintro e w' ⟨rfl, rfl⟩
      obtain ⟨U0, eU⟩ : ∃ U0, x % 14 = U0 := ⟨_, rfl⟩
      have u0 : 0 ≤ U0 := by omega
      have u1 : U0 < 14 := by omega
      rw [eU]
      clear eU
      go_wp2_with fail
      refine (mod_any _ _ _ (by omega) (by omega) y0 y1).mono ?_; rintro e w' ⟨rfl, rfl⟩
      obtain ⟨V0, eV⟩ : ∃ V0, y % 14 = V0 := ⟨_, rfl⟩
      have v0 : 0 ≤ V0 := by omega
      have v1 : V0 < 14 := by omega
      rw [eV]
      clear eV
      go_upto_region 6 with fail
      obtain ⟨U, eU⟩ : ∃ U, U0 - 4 = U := ⟨_, rfl⟩
      obtain ⟨V, eV⟩ : ∃ V, V0 - 4 = V := ⟨_, rfl⟩
      rw [eU, eV]
      clear eU eV u0 u1 v0 v1 x0 x1 y0 y1
      rcases hi : containsB a b c d U V with _ | _
      · rcases ho : containsB a' b' c' d' U V with _ | _
        · have hi' := Lib.hid hi
          have ho' := Lib.hid ho
          clear hi ho
          have hcnt := Lib.hid (show cntA U V L = 0 from by rw [cnt_sub hv'.out hu'.out hL'.out, hi'.out, ho'.out]; simp)
          go_cut [12, 13] (fun s12 s13 wx => s12 = .bool false ∧ s13 = .bool false ∧ Hid (InS w3 w3.heap.size (w3.heap.size + 1) a b c d a' b' c' d' wx))
          case first =>
            have hS3 : InS w3 w3.heap.size (w3.heap.size + 1) a b c d a' b' c' d' w6.drew := inS_keep (bref w6).drew hS.out
            go_region_held3 (fun w' => InS w3 w3.heap.size (w3.heap.size + 1) a b c d a' b' c' d' w') ((first | exact hS3 | exact inS_keep hb ‹_›))
              (first
                | (go_at_call_of 19 (Value.agg #[.int .i64 a, .int .i64 b, .int .i64 c, .int .i64 d]); refine (contains_is hi'.out _).mono ?_; rintro e w1 ⟨rfl, hb⟩)
                | (go_at_call 19; refine (contains_is ho'.out _).mono ?_; rintro e w1 ⟨rfl, hb⟩))
            all_goals (go_wp2_with fail; go_meet; exact ⟨rfl, rfl, Lib.hid ‹_›⟩)
          case rest =>
            obtain ⟨rfl, rfl, hS2⟩ := hcut
            clear hS k1 k2 k3 k4 k5 k6 k7 k8
            have hS := hS2
            clear hS2
            obtain ⟨-, k1, k2, k3, k4, k5, k6, k7, k8⟩ := hS.out
            go_wp2_with fail
            refine (sub_rcs hL'.out _).mono ?_; rintro e w7 ⟨sa, ca, rfl, hRs, hb⟩
            replace hRs := Lib.hid hRs
            replace hS := Lib.hid (inS_keep hb hS.out)
            clear hb k1 k2 k3 k4 k5 k6 k7 k8
            go_wp2_with fail
            go_loopw [15, 16] (fun n i wr => ∃ (k : Nat) (t : Int), k ≤ L.length ∧ n = .int .i64 t ∧ i = .int .i64 k ∧ Hid (t = cntA U V (L.take k)) ∧ (0 ≤ t ∧ t ≤ (k : Int)) ∧ Hid (RcsIs wr sa L) ∧ Hid (InS w3 w3.heap.size (w3.heap.size + 1) a b c d a' b' c' d' wr)) (fun _ i _ => L.length - (intOf i).toNat)
            case atStart => exact ⟨0, 0, by omega, rfl, rfl, Lib.hid (by simp [cntA]), by omega, hRs, hS⟩
            case round =>
              clear hRs hS
              obtain ⟨k, t, hk, rfl, rfl, ht, ⟨t0, t1⟩, hRs, hS⟩ := hrel
              by_cases hlt : k < L.length
              · obtain ⟨ga, rfl, p1, p2, p3, p4⟩ := hRs.out k hlt
                have hstep := Lib.hid (cntA_step U V L k hlt)
                obtain ⟨⟨X0, Y0, X1, Y1⟩, hq⟩ : ∃ rr, L.getD k ⟨0, 0, 0, 0⟩ = rr := ⟨_, rfl⟩
                rw [hq] at p1 p2 p3 p4 hstep
                dsimp only at p1 p2 p3 p4
                clear hq
                have hkI : (k : Int) < L.length := by omega
                have hk4 : (k : Int) + 1 ≤ 4 := by omega
                rcases hX : containsB X0 Y0 X1 Y1 U V with _ | _
                · have hX' := Lib.hid hX
                  have hB := Lib.hid (show t = cntA U V (L.take (k + 1)) from by rw [hstep.out, ht.out]; simp [hX])
                  clear hX hstep
                  go_wp2_with fail
                  refine (contains_is hX'.out _).mono ?_; rintro e wA ⟨rfl, hb⟩
                  have hRs2 := Lib.hid (hRs.out.below hb)
                  have hS2 := Lib.hid (inS_keep hb hS.out)
                  clear hb
                  go_wp2_with fail
                  go_roundw
                  case rel => exact ⟨k + 1, t, by omega, rfl, by go_num, hB, by omega, hRs2, hS2⟩
                  case measure => simp [intOf]; omega
                · have hX' := Lib.hid hX
                  have hB := Lib.hid (show t + 1 = cntA U V (L.take (k + 1)) from by rw [hstep.out, ht.out]; simp [hX])
                  clear hX hstep
                  go_wp2_with fail
                  refine (contains_is hX'.out _).mono ?_; rintro e wA ⟨rfl, hb⟩
                  have hRs2 := Lib.hid (hRs.out.below hb)
                  have hS2 := Lib.hid (inS_keep hb hS.out)
                  clear hb
                  go_wp2_with fail
                  go_roundw
                  case rel => exact ⟨k + 1, t + 1, by omega, rfl, by go_num, hB, by omega, hRs2, hS2⟩
                  case measure => simp [intOf]; omega
              · obtain rfl : k = L.length := by omega
                obtain rfl : t = 0 := by rw [ht.out, List.take_length]; exact hcnt.out
                obtain ⟨-, k1, k2, k3, k4, k5, k6, k7, k8⟩ := hS.out
                clear ht t0 t1
                have hcI := Lib.hid (show containsB p q r s U V = false from by have := cont_inter (u := U) (v := V) hv'.out hu'.out hR'.out; rw [hi'.out, ho'.out] at this; simpa using this)
                go_wp2_with fail
                refine (inter_is hR'.out _).mono ?_; rintro e wA ⟨rfl, hb⟩
                replace hS := Lib.hid (inS_keep hb hS.out)
                clear hb k1 k2 k3 k4 k5 k6 k7 k8
                obtain ⟨-, k1, k2, k3, k4, k5, k6, k7, k8⟩ := hS.out
                go_wp2_with fail
                refine (contains_is hcI.out _).mono ?_; rintro e wB ⟨rfl, hb⟩
                replace hS := Lib.hid (inS_keep hb hS.out)
                clear hb k1 k2 k3 k4 k5 k6 k7 k8
                obtain ⟨-, k1, k2, k3, k4, k5, k6, k7, k8⟩ := hS.out
                go_wp2_with fail
                refine (sane_any _).mono ?_; rintro e wE ⟨rfl, hb⟩
                go_wp2_with fail
                go_ret
                exact ⟨rfl, bthen (bthen HB.out hS.out.1) hb⟩
        · have hi' := Lib.hid hi
          have ho' := Lib.hid ho
          clear hi ho
          have hcnt := Lib.hid (show cntA U V L = 0 from by rw [cnt_sub hv'.out hu'.out hL'.out, hi'.out, ho'.out]; simp)
          go_cut [12, 13] (fun s12 s13 wx => s12 = .bool false ∧ s13 = .bool true ∧ Hid (InS w3 w3.heap.size (w3.heap.size + 1) a b c d a' b' c' d' wx))
          case first =>
            have hS3 : InS w3 w3.heap.size (w3.heap.size + 1) a b c d a' b' c' d' w6.drew := inS_keep (bref w6).drew hS.out
            go_region_held3 (fun w' => InS w3 w3.heap.size (w3.heap.size + 1) a b c d a' b' c' d' w') ((first | exact hS3 | exact inS_keep hb ‹_›))
              (first
                | (go_at_call_of 19 (Value.agg #[.int .i64 a, .int .i64 b, .int .i64 c, .int .i64 d]); refine (contains_is hi'.out _).mono ?_; rintro e w1 ⟨rfl, hb⟩)
                | (go_at_call 19; refine (contains_is ho'.out _).mono ?_; rintro e w1 ⟨rfl, hb⟩))
            all_goals (go_wp2_with fail; go_meet; exact ⟨rfl, rfl, Lib.hid ‹_›⟩)
          case rest =>
            obtain ⟨rfl, rfl, hS2⟩ := hcut
            clear hS k1 k2 k3 k4 k5 k6 k7 k8
            have hS := hS2
            clear hS2
            obtain ⟨-, k1, k2, k3, k4, k5, k6, k7, k8⟩ := hS.out
            go_wp2_with fail
            refine (sub_rcs hL'.out _).mono ?_; rintro e w7 ⟨sa, ca, rfl, hRs, hb⟩
            replace hRs := Lib.hid hRs
            replace hS := Lib.hid (inS_keep hb hS.out)
            clear hb k1 k2 k3 k4 k5 k6 k7 k8
            go_wp2_with fail
            go_loopw [15, 16] (fun n i wr => ∃ (k : Nat) (t : Int), k ≤ L.length ∧ n = .int .i64 t ∧ i = .int .i64 k ∧ Hid (t = cntA U V (L.take k)) ∧ (0 ≤ t ∧ t ≤ (k : Int)) ∧ Hid (RcsIs wr sa L) ∧ Hid (InS w3 w3.heap.size (w3.heap.size + 1) a b c d a' b' c' d' wr)) (fun _ i _ => L.length - (intOf i).toNat)
            case atStart => exact ⟨0, 0, by omega, rfl, rfl, Lib.hid (by simp [cntA]), by omega, hRs, hS⟩
            case round =>
              clear hRs hS
              obtain ⟨k, t, hk, rfl, rfl, ht, ⟨t0, t1⟩, hRs, hS⟩ := hrel
              by_cases hlt : k < L.length
              · obtain ⟨ga, rfl, p1, p2, p3, p4⟩ := hRs.out k hlt
                have hstep := Lib.hid (cntA_step U V L k hlt)
                obtain ⟨⟨X0, Y0, X1, Y1⟩, hq⟩ : ∃ rr, L.getD k ⟨0, 0, 0, 0⟩ = rr := ⟨_, rfl⟩
                rw [hq] at p1 p2 p3 p4 hstep
                dsimp only at p1 p2 p3 p4
                clear hq
                have hkI : (k : Int) < L.length := by omega
                have hk4 : (k : Int) + 1 ≤ 4 := by omega
                rcases hX : containsB X0 Y0 X1 Y1 U V with _ | _
                · have hX' := Lib.hid hX
                  have hB := Lib.hid (show t = cntA U V (L.take (k + 1)) from by rw [hstep.out, ht.out]; simp [hX])
                  clear hX hstep
                  go_wp2_with fail
                  refine (contains_is hX'.out _).mono ?_; rintro e wA ⟨rfl, hb⟩
                  have hRs2 := Lib.hid (hRs.out.below hb)
                  have hS2 := Lib.hid (inS_keep hb hS.out)
                  clear hb
                  go_wp2_with fail
                  go_roundw
                  case rel => exact ⟨k + 1, t, by omega, rfl, by go_num, hB, by omega, hRs2, hS2⟩
                  case measure => simp [intOf]; omega
                · have hX' := Lib.hid hX
                  have hB := Lib.hid (show t + 1 = cntA U V (L.take (k + 1)) from by rw [hstep.out, ht.out]; simp [hX])
                  clear hX hstep
                  go_wp2_with fail
                  refine (contains_is hX'.out _).mono ?_; rintro e wA ⟨rfl, hb⟩
                  have hRs2 := Lib.hid (hRs.out.below hb)
                  have hS2 := Lib.hid (inS_keep hb hS.out)
                  clear hb
                  go_wp2_with fail
                  go_roundw
                  case rel => exact ⟨k + 1, t + 1, by omega, rfl, by go_num, hB, by omega, hRs2, hS2⟩
                  case measure => simp [intOf]; omega
              · obtain rfl : k = L.length := by omega
                obtain rfl : t = 0 := by rw [ht.out, List.take_length]; exact hcnt.out
                obtain ⟨-, k1, k2, k3, k4, k5, k6, k7, k8⟩ := hS.out
                clear ht t0 t1
                have hcI := Lib.hid (show containsB p q r s U V = false from by have := cont_inter (u := U) (v := V) hv'.out hu'.out hR'.out; rw [hi'.out, ho'.out] at this; simpa using this)
                have hcH := Lib.hid (cont_hull (u := U) (v := V) hv'.out hu'.out hH'.out (by rw [hi'.out, ho'.out]; simp))
                go_wp2_with fail
                refine (inter_is hR'.out _).mono ?_; rintro e wA ⟨rfl, hb⟩
                replace hS := Lib.hid (inS_keep hb hS.out)
                clear hb k1 k2 k3 k4 k5 k6 k7 k8
                obtain ⟨-, k1, k2, k3, k4, k5, k6, k7, k8⟩ := hS.out
                go_wp2_with fail
                refine (contains_is hcI.out _).mono ?_; rintro e wB ⟨rfl, hb⟩
                replace hS := Lib.hid (inS_keep hb hS.out)
                clear hb k1 k2 k3 k4 k5 k6 k7 k8
                obtain ⟨-, k1, k2, k3, k4, k5, k6, k7, k8⟩ := hS.out
                go_wp2_with fail
                refine (hull_is hH'.out _).mono ?_; rintro e wC ⟨rfl, hb⟩
                replace hS := Lib.hid (inS_keep hb hS.out)
                clear hb k1 k2 k3 k4 k5 k6 k7 k8
                obtain ⟨-, k1, k2, k3, k4, k5, k6, k7, k8⟩ := hS.out
                go_wp2_with fail
                refine (contains_is hcH.out _).mono ?_; rintro e wD ⟨rfl, hb⟩
                replace hS := Lib.hid (inS_keep hb hS.out)
                clear hb k1 k2 k3 k4 k5 k6 k7 k8
                obtain ⟨-, k1, k2, k3, k4, k5, k6, k7, k8⟩ := hS.out
                go_wp2_with fail
                refine (sane_any _).mono ?_; rintro e wE ⟨rfl, hb⟩
                go_wp2_with fail
                go_ret
                exact ⟨rfl, bthen (bthen HB.out hS.out.1) hb⟩
      · rcases ho : containsB a' b' c' d' U V with _ | _
        · have hi' := Lib.hid hi
          have ho' := Lib.hid ho
          clear hi ho
          have hcnt := Lib.hid (show cntA U V L = 1 from by rw [cnt_sub hv'.out hu'.out hL'.out, hi'.out, ho'.out]; simp)
          go_cut [12, 13] (fun s12 s13 wx => s12 = .bool true ∧ s13 = .bool false ∧ Hid (InS w3 w3.heap.size (w3.heap.size + 1) a b c d a' b' c' d' wx))
          case first =>
            have hS3 : InS w3 w3.heap.size (w3.heap.size + 1) a b c d a' b' c' d' w6.drew := inS_keep (bref w6).drew hS.out
            go_region_held3 (fun w' => InS w3 w3.heap.size (w3.heap.size + 1) a b c d a' b' c' d' w') ((first | exact hS3 | exact inS_keep hb ‹_›))
              (first
                | (go_at_call_of 19 (Value.agg #[.int .i64 a, .int .i64 b, .int .i64 c, .int .i64 d]); refine (contains_is hi'.out _).mono ?_; rintro e w1 ⟨rfl, hb⟩)
                | (go_at_call 19; refine (contains_is ho'.out _).mono ?_; rintro e w1 ⟨rfl, hb⟩))
            all_goals (go_wp2_with fail; go_meet; exact ⟨rfl, rfl, Lib.hid ‹_›⟩)
          case rest =>
            obtain ⟨rfl, rfl, hS2⟩ := hcut
            clear hS k1 k2 k3 k4 k5 k6 k7 k8
            have hS := hS2
            clear hS2
            obtain ⟨-, k1, k2, k3, k4, k5, k6, k7, k8⟩ := hS.out
            go_wp2_with fail
            refine (sub_rcs hL'.out _).mono ?_; rintro e w7 ⟨sa, ca, rfl, hRs, hb⟩
            replace hRs := Lib.hid hRs
            replace hS := Lib.hid (inS_keep hb hS.out)
            clear hb k1 k2 k3 k4 k5 k6 k7 k8
            go_wp2_with fail
            go_loopw [15, 16] (fun n i wr => ∃ (k : Nat) (t : Int), k ≤ L.length ∧ n = .int .i64 t ∧ i = .int .i64 k ∧ Hid (t = cntA U V (L.take k)) ∧ (0 ≤ t ∧ t ≤ (k : Int)) ∧ Hid (RcsIs wr sa L) ∧ Hid (InS w3 w3.heap.size (w3.heap.size + 1) a b c d a' b' c' d' wr)) (fun _ i _ => L.length - (intOf i).toNat)
            case atStart => exact ⟨0, 0, by omega, rfl, rfl, Lib.hid (by simp [cntA]), by omega, hRs, hS⟩
            case round =>
              clear hRs hS
              obtain ⟨k, t, hk, rfl, rfl, ht, ⟨t0, t1⟩, hRs, hS⟩ := hrel
              by_cases hlt : k < L.length
              · obtain ⟨ga, rfl, p1, p2, p3, p4⟩ := hRs.out k hlt
                have hstep := Lib.hid (cntA_step U V L k hlt)
                obtain ⟨⟨X0, Y0, X1, Y1⟩, hq⟩ : ∃ rr, L.getD k ⟨0, 0, 0, 0⟩ = rr := ⟨_, rfl⟩
                rw [hq] at p1 p2 p3 p4 hstep
                dsimp only at p1 p2 p3 p4
                clear hq
                have hkI : (k : Int) < L.length := by omega
                have hk4 : (k : Int) + 1 ≤ 4 := by omega
                rcases hX : containsB X0 Y0 X1 Y1 U V with _ | _
                · have hX' := Lib.hid hX
                  have hB := Lib.hid (show t = cntA U V (L.take (k + 1)) from by rw [hstep.out, ht.out]; simp [hX])
                  clear hX hstep
                  go_wp2_with fail
                  refine (contains_is hX'.out _).mono ?_; rintro e wA ⟨rfl, hb⟩
                  have hRs2 := Lib.hid (hRs.out.below hb)
                  have hS2 := Lib.hid (inS_keep hb hS.out)
                  clear hb
                  go_wp2_with fail
                  go_roundw
                  case rel => exact ⟨k + 1, t, by omega, rfl, by go_num, hB, by omega, hRs2, hS2⟩
                  case measure => simp [intOf]; omega
                · have hX' := Lib.hid hX
                  have hB := Lib.hid (show t + 1 = cntA U V (L.take (k + 1)) from by rw [hstep.out, ht.out]; simp [hX])
                  clear hX hstep
                  go_wp2_with fail
                  refine (contains_is hX'.out _).mono ?_; rintro e wA ⟨rfl, hb⟩
                  have hRs2 := Lib.hid (hRs.out.below hb)
                  have hS2 := Lib.hid (inS_keep hb hS.out)
                  clear hb
                  go_wp2_with fail
                  go_roundw
                  case rel => exact ⟨k + 1, t + 1, by omega, rfl, by go_num, hB, by omega, hRs2, hS2⟩
                  case measure => simp [intOf]; omega
              · obtain rfl : k = L.length := by omega
                obtain rfl : t = 1 := by rw [ht.out, List.take_length]; exact hcnt.out
                obtain ⟨-, k1, k2, k3, k4, k5, k6, k7, k8⟩ := hS.out
                clear ht t0 t1
                have hcI := Lib.hid (show containsB p q r s U V = false from by have := cont_inter (u := U) (v := V) hv'.out hu'.out hR'.out; rw [hi'.out, ho'.out] at this; simpa using this)
                have hcH := Lib.hid (cont_hull (u := U) (v := V) hv'.out hu'.out hH'.out (by rw [hi'.out, ho'.out]; simp))
                go_wp2_with fail
                refine (inter_is hR'.out _).mono ?_; rintro e wA ⟨rfl, hb⟩
                replace hS := Lib.hid (inS_keep hb hS.out)
                clear hb k1 k2 k3 k4 k5 k6 k7 k8
                obtain ⟨-, k1, k2, k3, k4, k5, k6, k7, k8⟩ := hS.out
                go_wp2_with fail
                refine (contains_is hcI.out _).mono ?_; rintro e wB ⟨rfl, hb⟩
                replace hS := Lib.hid (inS_keep hb hS.out)
                clear hb k1 k2 k3 k4 k5 k6 k7 k8
                obtain ⟨-, k1, k2, k3, k4, k5, k6, k7, k8⟩ := hS.out
                go_wp2_with fail
                refine (hull_is hH'.out _).mono ?_; rintro e wC ⟨rfl, hb⟩
                replace hS := Lib.hid (inS_keep hb hS.out)
                clear hb k1 k2 k3 k4 k5 k6 k7 k8
                obtain ⟨-, k1, k2, k3, k4, k5, k6, k7, k8⟩ := hS.out
                go_wp2_with fail
                refine (contains_is hcH.out _).mono ?_; rintro e wD ⟨rfl, hb⟩
                replace hS := Lib.hid (inS_keep hb hS.out)
                clear hb k1 k2 k3 k4 k5 k6 k7 k8
                obtain ⟨-, k1, k2, k3, k4, k5, k6, k7, k8⟩ := hS.out
                go_wp2_with fail
                refine (sane_any _).mono ?_; rintro e wE ⟨rfl, hb⟩
                go_wp2_with fail
                go_ret
                exact ⟨rfl, bthen (bthen HB.out hS.out.1) hb⟩
        · have hi' := Lib.hid hi
          have ho' := Lib.hid ho
          clear hi ho
          have hcnt := Lib.hid (show cntA U V L = 0 from by rw [cnt_sub hv'.out hu'.out hL'.out, hi'.out, ho'.out]; simp)
          go_cut [12, 13] (fun s12 s13 wx => s12 = .bool true ∧ s13 = .bool true ∧ Hid (InS w3 w3.heap.size (w3.heap.size + 1) a b c d a' b' c' d' wx))
          case first =>
            have hS3 : InS w3 w3.heap.size (w3.heap.size + 1) a b c d a' b' c' d' w6.drew := inS_keep (bref w6).drew hS.out
            go_region_held3 (fun w' => InS w3 w3.heap.size (w3.heap.size + 1) a b c d a' b' c' d' w') ((first | exact hS3 | exact inS_keep hb ‹_›))
              (first
                | (go_at_call_of 19 (Value.agg #[.int .i64 a, .int .i64 b, .int .i64 c, .int .i64 d]); refine (contains_is hi'.out _).mono ?_; rintro e w1 ⟨rfl, hb⟩)
                | (go_at_call 19; refine (contains_is ho'.out _).mono ?_; rintro e w1 ⟨rfl, hb⟩))
            all_goals (go_wp2_with fail; go_meet; exact ⟨rfl, rfl, Lib.hid ‹_›⟩)
          case rest =>
            obtain ⟨rfl, rfl, hS2⟩ := hcut
            clear hS k1 k2 k3 k4 k5 k6 k7 k8
            have hS := hS2
            clear hS2
            obtain ⟨-, k1, k2, k3, k4, k5, k6, k7, k8⟩ := hS.out
            go_wp2_with fail
            refine (sub_rcs hL'.out _).mono ?_; rintro e w7 ⟨sa, ca, rfl, hRs, hb⟩
            replace hRs := Lib.hid hRs
            replace hS := Lib.hid (inS_keep hb hS.out)
            clear hb k1 k2 k3 k4 k5 k6 k7 k8
            go_wp2_with fail
            go_loopw [15, 16] (fun n i wr => ∃ (k : Nat) (t : Int), k ≤ L.length ∧ n = .int .i64 t ∧ i = .int .i64 k ∧ Hid (t = cntA U V (L.take k)) ∧ (0 ≤ t ∧ t ≤ (k : Int)) ∧ Hid (RcsIs wr sa L) ∧ Hid (InS w3 w3.heap.size (w3.heap.size + 1) a b c d a' b' c' d' wr)) (fun _ i _ => L.length - (intOf i).toNat)
            case atStart => exact ⟨0, 0, by omega, rfl, rfl, Lib.hid (by simp [cntA]), by omega, hRs, hS⟩
            case round =>
              clear hRs hS
              obtain ⟨k, t, hk, rfl, rfl, ht, ⟨t0, t1⟩, hRs, hS⟩ := hrel
              by_cases hlt : k < L.length
              · obtain ⟨ga, rfl, p1, p2, p3, p4⟩ := hRs.out k hlt
                have hstep := Lib.hid (cntA_step U V L k hlt)
                obtain ⟨⟨X0, Y0, X1, Y1⟩, hq⟩ : ∃ rr, L.getD k ⟨0, 0, 0, 0⟩ = rr := ⟨_, rfl⟩
                rw [hq] at p1 p2 p3 p4 hstep
                dsimp only at p1 p2 p3 p4
                clear hq
                have hkI : (k : Int) < L.length := by omega
                have hk4 : (k : Int) + 1 ≤ 4 := by omega
                rcases hX : containsB X0 Y0 X1 Y1 U V with _ | _
                · have hX' := Lib.hid hX
                  have hB := Lib.hid (show t = cntA U V (L.take (k + 1)) from by rw [hstep.out, ht.out]; simp [hX])
                  clear hX hstep
                  go_wp2_with fail
                  refine (contains_is hX'.out _).mono ?_; rintro e wA ⟨rfl, hb⟩
                  have hRs2 := Lib.hid (hRs.out.below hb)
                  have hS2 := Lib.hid (inS_keep hb hS.out)
                  clear hb
                  go_wp2_with fail
                  go_roundw
                  case rel => exact ⟨k + 1, t, by omega, rfl, by go_num, hB, by omega, hRs2, hS2⟩
                  case measure => simp [intOf]; omega
                · have hX' := Lib.hid hX
                  have hB := Lib.hid (show t + 1 = cntA U V (L.take (k + 1)) from by rw [hstep.out, ht.out]; simp [hX])
                  clear hX hstep
                  go_wp2_with fail
                  refine (contains_is hX'.out _).mono ?_; rintro e wA ⟨rfl, hb⟩
                  have hRs2 := Lib.hid (hRs.out.below hb)
                  have hS2 := Lib.hid (inS_keep hb hS.out)
                  clear hb
                  go_wp2_with fail
                  go_roundw
                  case rel => exact ⟨k + 1, t + 1, by omega, rfl, by go_num, hB, by omega, hRs2, hS2⟩
                  case measure => simp [intOf]; omega
              · obtain rfl : k = L.length := by omega
                obtain rfl : t = 0 := by rw [ht.out, List.take_length]; exact hcnt.out
                obtain ⟨-, k1, k2, k3, k4, k5, k6, k7, k8⟩ := hS.out
                clear ht t0 t1
                have hcI := Lib.hid (show containsB p q r s U V = true from by have := cont_inter (u := U) (v := V) hv'.out hu'.out hR'.out; rw [hi'.out, ho'.out] at this; simpa using this)
                have hcH := Lib.hid (cont_hull (u := U) (v := V) hv'.out hu'.out hH'.out (by rw [hi'.out, ho'.out]; simp))
                go_wp2_with fail
                refine (inter_is hR'.out _).mono ?_; rintro e wA ⟨rfl, hb⟩
                replace hS := Lib.hid (inS_keep hb hS.out)
                clear hb k1 k2 k3 k4 k5 k6 k7 k8
                obtain ⟨-, k1, k2, k3, k4, k5, k6, k7, k8⟩ := hS.out
                go_wp2_with fail
                refine (contains_is hcI.out _).mono ?_; rintro e wB ⟨rfl, hb⟩
                replace hS := Lib.hid (inS_keep hb hS.out)
                clear hb k1 k2 k3 k4 k5 k6 k7 k8
                obtain ⟨-, k1, k2, k3, k4, k5, k6, k7, k8⟩ := hS.out
                go_wp2_with fail
                refine (hull_is hH'.out _).mono ?_; rintro e wC ⟨rfl, hb⟩
                replace hS := Lib.hid (inS_keep hb hS.out)
                clear hb k1 k2 k3 k4 k5 k6 k7 k8
                obtain ⟨-, k1, k2, k3, k4, k5, k6, k7, k8⟩ := hS.out
                go_wp2_with fail
                refine (contains_is hcH.out _).mono ?_; rintro e wD ⟨rfl, hb⟩
                replace hS := Lib.hid (inS_keep hb hS.out)
                clear hb k1 k2 k3 k4 k5 k6 k7 k8
                obtain ⟨-, k1, k2, k3, k4, k5, k6, k7, k8⟩ := hS.out
                go_wp2_with fail
                refine (sane_any _).mono ?_; rintro e wE ⟨rfl, hb⟩
                go_wp2_with fail
                go_ret
                exact ⟨rfl, bthen (bthen HB.out hS.out.1) hb⟩


namespace rectPoints
theorem own : ownKnob Try.prog.godebug = none := by kernel_rfl
theorem laid : laidOutB Try.prog = true := by kernel_rfl
theorem params_ok : ∀ t ∈ Try.f5.params.toList, Try.prog.readableRec t = true ∧ t < Try.prog.types.size := by
  rw [Try.params5]
  intro t ht
  simp at ht
  rcases ht with rfl | rfl | rfl <;> exact ⟨by kernel_rfl, of_decide_eq_true (by kernel_rfl)⟩
set_option maxRecDepth 100000 in
theorem lifted (os : Os) (started : os.Started) (H : Type) (enc : TypeId × Value → H) :
    ReturnsInHanded {} Try.checked os 5 .any (Rows.rectPointsSpec.pre6 enc Try.prog Try.f5 Rows.rectPointsRow.domain false) (Rows.rectPointsSpec.post enc Try.prog Try.f5 false true false false) := by
  refine returnsInHanded_of_change (C := Try.checked) own started (by kernel_rfl) Try.func5
    (ChangeSpec.witness6 (enc := enc) (C := Try.checked) false ⟨#[], #[.slice none 0 0, .int .i64 0, .int .i64 0], []⟩ 8 (by kernel_rfl) (by kernel_rfl) (by kernel_rfl) (by kernel_rfl)) ?_
  intro W base args ds gs before hval0 hW hcnd _
  have hval : ∀ (j : Nat) t v, Try.f5.params[j]? = some t → args[j]? = some v → Value.okWide Try.prog W .any base t v := hval0
  have hW' := hW
  obtain ⟨p, q, hA0, hV, rfl, hfz, hnd⟩ := hW
  have hA : DataW.TrodAll enc Try.prog W 0 (fun _ => true) true Try.f5.params.toList args.toList ds p := hA0
  rw [Try.params5] at hA hval
  obtain ⟨v0, vs0, d0, ds0, p0, q0, hargs, rfl, rfl, h0, r0⟩ := trodAll_cons hA
  obtain ⟨v1, vs1, d1, ds1, p1, q1, rfl, rfl, rfl, h1, r1⟩ := trodAll_cons r0
  obtain ⟨v2, vs2, d2, ds2, p2, q2, rfl, rfl, rfl, h2, r2⟩ := trodAll_cons r1
  obtain ⟨rfl, rfl, rfl⟩ := trodAll_nil r2
  obtain rfl : args = #[v0, v1, v2] := by cases args; simp_all
  obtain ⟨rfl, rfl⟩ := trodVars_none hV
  obtain ⟨a0, len, cap, rfl⟩ := okWide_slice Try.underlying22 (hval 0 22 v0 rfl rfl)
  obtain ⟨xs, rfl, hs, hf, hl⟩ := open_list h0
  obtain ⟨i1, rfl, rfl, rfl, w1⟩ := open_int Try.underlying3 (hval 1 3 v1 rfl rfl) h1
  obtain ⟨i2, rfl, rfl, rfl, w2⟩ := open_int Try.underlying3 (hval 2 3 v2 rfl rfl) h2
  clear hA0 hval0
  have fin : Calls Try.prog 5 #[.slice a0 xs.length cap, .int .i64 i1, .int .i64 i2] W (TestPost true W) := points_walk xs a0 cap i1 i2 W hs hf hl (wf_bd w1).1 (wf_bd w1).2 (wf_bd w2).1 (wf_bd w2).2
  refine fin.mono fun e W' ⟨he, hb⟩ => ?_
  subst he
  exact ⟨_, rfl, law_post laid rfl Try.underlying4 params_ok rfl hW' rfl hb⟩

theorem over : Rows.rectPointsRow.holds Try.pinned (OpenSpec.ofChange Rows.rectPointsSpec) :=
  OpenClaim.holds_of_wide 5 Try.f5 rfl rfl rfl rfl rfl rfl rfl ⟨rfl, rfl, rfl, rfl, rfl⟩ rfl rfl rfl rfl rfl (by kernel_rfl) Try.func5 (by kernel_rfl)
    (of_decide_eq_true (by kernel_rfl)) (by unfold Func.isWrapper; first | (rw [if_pos (by decide +kernel)]; kernel_rfl) | (rw [if_neg (by decide +kernel)]; exact ⟨rfl, rfl⟩))
    (fun os started H enc _ => lifted os started H enc)

/-- the statement -/
theorem proved : Rows.RectPointsSaid := over
#print axioms proved
end rectPoints
end Go.Proofs.Ytbdedlmpcdelfaa
