/- agrees: over every two rectangles and every six numbers the functions of the program and of the reference give the same; new blocks come at most. -/
import Derived.Test.YtbdedlmpcdelfaaRIs
import Derived.Test.YtbdedlmpcdelfaaRRHull
import Derived.Test.YtbdedlmpcdelfaaRROut
namespace Go.Proofs.Ytbdedlmpcdelfaa
open Go.ChangeShapes Go.WideShapes Go.ChangeAt Go.RowKit
set_option linter.unusedVariables false
set_option linter.unusedSimpArgs false

theorem rhull_is {a b c d a' b' c' d' p q r s : Int} (h : hullR a b c d a' b' c' d' = ⟨p, q, r, s⟩) (w : World) : Calls Try.prog 31 #[.agg #[.int .i64 a, .int .i64 b, .int .i64 c, .int .i64 d], .agg #[.int .i64 a', .int .i64 b', .int .i64 c', .int .i64 d']] w
    fun e w' => e = .returned (.agg #[.int .i64 p, .int .i64 q, .int .i64 r, .int .i64 s]) ∧ Below w.heap.size w w' := by
  have := rhull_any a b c d a' b' c' d' w
  unfold RcPost at this
  rw [h] at this
  exact this
theorem rout_is {a b c d l t r u x0 y0 x1 y1 : Int} (h : outR a b c d l t r u = ⟨x0, y0, x1, y1⟩) (w : World) : Calls Try.prog 32 #[.agg #[.int .i64 a, .int .i64 b, .int .i64 c, .int .i64 d], .int .i64 l, .int .i64 t, .int .i64 r, .int .i64 u] w
    fun e w' => e = .returned (.agg #[.int .i64 x0, .int .i64 y0, .int .i64 x1, .int .i64 y1]) ∧ Below w.heap.size w w' := by
  have := rout_any a b c d l t r u w
  unfold RcPost at this
  rw [h] at this
  exact this
set_option maxRecDepth 100000 in
set_option maxHeartbeats 8000000 in
theorem agrees_any (a b c d a' b' c' d' x y l t r u : Int) (w : World) :
    Calls Try.prog 14 #[.agg #[.int .i64 a, .int .i64 b, .int .i64 c, .int .i64 d], .agg #[.int .i64 a', .int .i64 b', .int .i64 c', .int .i64 d'], .int .i64 x, .int .i64 y, .int .i64 l, .int .i64 t, .int .i64 r, .int .i64 u] w (TestPost true w) := by
  obtain ⟨L, hL⟩ : ∃ L, subL a b c d a' b' c' d' = L := ⟨_, rfl⟩
  obtain ⟨⟨i0, i1, i2, i3⟩, hI⟩ : ∃ r, interR a b c d a' b' c' d' = r := ⟨_, rfl⟩
  obtain ⟨⟨h0, h1, h2, h3⟩, hH⟩ : ∃ r, hullR a b c d a' b' c' d' = r := ⟨_, rfl⟩
  obtain ⟨⟨o0, o1, o2, o3⟩, hO⟩ : ∃ rr, outR a b c d l t r u = rr := ⟨_, rfl⟩
  have hLen : L.length ≤ 4 := hL ▸ sub_len _ _ _ _ _ _ _ _
  have hL' := Lib.hid hL
  have hI' := Lib.hid hI
  have hH' := Lib.hid hH
  have hO' := Lib.hid hO
  clear hL hI hH hO
  go_enter Try.func14, Try.ntmps14
  go_upto_region 1 with fail
  have hS := inS_start w a b c d a' b' c' d' 26 26
  go_cut [17, 18] (fun s17 s18 wx => ∃ sa ca sb cb, s17 = .slice sa L.length ca ∧ s18 = .slice sb L.length cb ∧ Hid (RcsIs wx sa L) ∧ Hid (RcsIs wx sb L) ∧ Hid (InS w w.heap.size (w.heap.size + 1) a b c d a' b' c' d' wx))
  case first =>
    go_region_held3 (fun w' => InS w w.heap.size (w.heap.size + 1) a b c d a' b' c' d' w') ((first | exact hS | exact inS_keep hb ‹_›))
      (first
        | (go_at_call 20; refine (sub_rcs hL'.out _).mono ?_; rintro e w1 ⟨sa, ca, rfl, hR1, hb⟩; have hb1 := hb)
        | (go_at_call 25; refine (rsub_rcs hL'.out _).mono ?_; rintro e w2 ⟨sb, cb, rfl, hR2, hb⟩))
    all_goals (go_wp2_with fail; go_meet; exact ⟨sa, ca, sb, cb, rfl, rfl, Lib.hid (hR1.below hb), Lib.hid hR2, Lib.hid ‹_›⟩)
  case rest =>
    obtain ⟨sa, ca, sb, cb, rfl, rfl, hRA, hRB, hS'⟩ := hcut
    have hS := hS'
    clear hS'
    go_wp2_with fail
    go_loopw [19] (fun i wr => ∃ k : Nat, k ≤ L.length ∧ i = .int .i64 k ∧ ∃ n, wr = wc.drewN n) (fun i _ => L.length - (intOf i).toNat)
    case atStart => exact ⟨0, by omega, rfl, 0, rfl⟩
    case round =>
      obtain ⟨k, hk, rfl, n, rfl⟩ := hrel
      by_cases hlt : k < L.length
      · obtain ⟨ga, rfl, p1, p2, p3, p4⟩ := hRA.out k hlt
        obtain ⟨gb, rfl, q1, q2, q3, q4⟩ := hRB.out k hlt
        obtain ⟨⟨X0, Y0, X1, Y1⟩, hq⟩ : ∃ rr, L.getD k ⟨0, 0, 0, 0⟩ = rr := ⟨_, rfl⟩
        rw [hq] at p1 p2 p3 p4 q1 q2 q3 q4
        dsimp only at p1 p2 p3 p4 q1 q2 q3 q4
        clear hq
        have hkI : (k : Int) < L.length := by omega
        go_wp2_with fail
        go_quiet (fail)
        go_wp2_with fail
        go_roundw
        case rel => exact ⟨k + 1, by omega, by go_num, _, rfl⟩
        case measure => simp [intOf]; omega
      · obtain rfl : k = L.length := by omega
        obtain ⟨wz, ewz⟩ : ∃ wz, wz = wc.drewN n := ⟨_, rfl⟩
        have hS2 : Hid (InS w w.heap.size (w.heap.size + 1) a b c d a' b' c' d' wz) := by rw [ewz]; exact Lib.hid (inS_keep (bdrewN (bref wc) n) hS.out)
        rw [← ewz]
        clear ewz hS hRA hRB
        have hS := hS2
        clear hS2
        have hS3 : InS w w.heap.size (w.heap.size + 1) a b c d a' b' c' d' wz.drew := inS_keep (bref wz).drew hS.out
        clear hS hk hlt
        go_wp2_with fail
        simp only [List.append]
        go_region_held3 (fun w' => InS w w.heap.size (w.heap.size + 1) a b c d a' b' c' d' w') ((first | exact hS3 | exact inS_keep hb ‹_›))
          (first
          | (go_at_call 24; refine (valid_any _ _ _ _ _).mono ?_; rintro e w1 ⟨rfl, hb⟩)
          | (go_at_call 17; refine (rvalid_any _ _ _ _ _).mono ?_; rintro e w1 ⟨rfl, hb⟩)
          | (go_at_call 23; refine (empty_any _ _ _ _ _).mono ?_; rintro e w1 ⟨rfl, hb⟩)
          | (go_at_call 26; refine (rempty_any _ _ _ _ _).mono ?_; rintro e w1 ⟨rfl, hb⟩)
          | (go_at_call 12; refine (area_any _ _ _ _ _).mono ?_; rintro e w1 ⟨rfl, hb⟩)
          | (go_at_call 27; refine (rarea_any _ _ _ _ _).mono ?_; rintro e w1 ⟨rfl, hb⟩)
          | (go_at_call 19; refine (contains_any _ _ _ _ _ _ _).mono ?_; rintro e w1 ⟨rfl, hb⟩)
          | (go_at_call 28; refine (rcontains_any _ _ _ _ _ _ _).mono ?_; rintro e w1 ⟨rfl, hb⟩)
          | (go_at_call 11; refine (inside_any _ _ _ _ _ _ _ _ _).mono ?_; rintro e w1 ⟨rfl, hb⟩)
          | (go_at_call 29; refine (rinside_any _ _ _ _ _ _ _ _ _).mono ?_; rintro e w1 ⟨rfl, hb⟩)
          | (go_at_call 21; refine (inter_is hI'.out _).mono ?_; rintro e w1 ⟨rfl, hb⟩)
          | (go_at_call 30; refine (rinter_is hI'.out _).mono ?_; rintro e w1 ⟨rfl, hb⟩)
          | (go_at_call 22; refine (hull_is hH'.out _).mono ?_; rintro e w1 ⟨rfl, hb⟩)
          | (go_at_call 31; refine (rhull_is hH'.out _).mono ?_; rintro e w1 ⟨rfl, hb⟩)
          | (go_at_call 10; refine (out_is hO'.out _).mono ?_; rintro e w1 ⟨rfl, hb⟩)
          | (go_at_call 32; refine (rout_is hO'.out _).mono ?_; rintro e w1 ⟨rfl, hb⟩))
        all_goals
          go_wp2_with fail
          go_ret
          exact ⟨rfl, (‹InS w w.heap.size (w.heap.size + 1) a b c d a' b' c' d' w1›).1⟩
end Go.Proofs.Ytbdedlmpcdelfaa
