/- For all lists and ints the statement FixedBounds returns true: which lists are weights, and the bounds of sums, are as the reference says. No condition on them. -/
import Derived.Test.YtngaocfokdlhaaaFixedWithin
import Derived.Test.YtngaocfokdlhaaaPickLit
namespace Go.Proofs.Ytngaocfokdlhaaa
open Go.ChangeShapes Go.WideShapes Go.ChangeAt Go.RowKit
set_option linter.unusedVariables false
set_option linter.unusedSimpArgs false

theorem pick4 {m a b c d : Int} (h : m ∈ [a, b, c, d]) : m = a ∨ m = b ∨ m = c ∨ m = d := by simpa using h
theorem tape_put {W w : World} {p : Nat} {a : Option Addr} {cap : Nat} {xs : List Int} (h : TapeSome W w p a cap xs) {g : Nat} (h0 : W.heap.size ≤ g) (hne : ¬ g = p) (k : Nat) (v : Value) : TapeSome W (w.setCell ⟨g, k, none⟩ v) p a cap xs :=
  ⟨h.choose, h.choose_spec.keep (grown_set w g k v) (fun q e => by cases e; exact ⟨h0, hne⟩)⟩
set_option maxRecDepth 100000 in
set_option maxHeartbeats 8000000 in
theorem bounds_walk (xs : List Int) (a0 : Option Addr) (cap : Nat) (ys : List Int) (b0 : Option Addr) (cap1 : Nat) (lo hi : Int) (w : World) (hs : SliceIs w a0 xs) (hf : Fits xs) (hl : xs.length ≤ 9223372036854775807) (us : SliceIs w b0 ys) (ul : ys.length ≤ 9223372036854775807) :
    Calls Try.prog 4 #[.slice a0 xs.length cap, .slice b0 ys.length cap1, .int .i64 lo, .int .i64 hi] w (TestPost true w) := by
  have hs' := Lib.hid hs
  have hf' := Lib.hid hf
  have hl' := Lib.hid hl
  have us' := Lib.hid us
  obtain ⟨n1, en1⟩ : ∃ n, ys.length = n := ⟨_, rfl⟩
  have ul' := Lib.hid ul
  have EN1 := Lib.hid en1
  rw [en1]
  clear hs hf hl us ul en1
  go_enter Try.func4, Try.ntmps4
  go_wp2_with fail
  refine (new_any a0 cap xs _ hs'.out hf'.out hl'.out).mono ?_; rintro e w1 ⟨rfl, hT1⟩
  replace hT1 : Hid (TapeSome w w1 w.heap.size a0 cap xs) := Lib.hid ⟨0, hT1⟩
  go_wp2_with fail
  go_loopw [10] (fun i wr => ∃ k : Nat, k ≤ 5 ∧ i = .int .i64 k ∧ Hid (TapeSome w wr w.heap.size a0 cap xs)) (fun i _ => 5 - (intOf i).toNat)
  case atStart => exact ⟨0, by omega, rfl, hT1⟩
  case round =>
    clear hT1
    obtain ⟨k, hk, rfl, hT1⟩ := hrel
    by_cases hlt : k < 5
    · have hkI : (k : Int) < 5 := by omega
      go_wp2_with fail
      refine (next_some w w.heap.size a0 cap xs _ _ hT1.out (by omega) (by omega)).mono ?_; rintro e w2 ⟨m1, rfl, hm1, hT2, hg⟩; replace hT2 := Lib.hid hT2; clear hg hT1
      go_wp2_with fail
      refine (pick_litm (ys := [m1, 81, 82, 3]) w w.heap.size a0 cap xs _ _ _ _ hT2.out (by simp) (by simp) (by intro j hj; simp at hj; rcases (show j = 0 ∨ j = 1 ∨ j = 2 ∨ j = 3 by omega) with rfl | rfl | rfl | rfl <;> rfl)).mono ?_; rintro e w3 ⟨n, rfl, hn, hT3, hg⟩
      have hn2 : 0 ≤ n ∧ n ≤ 82 := by rcases pick4 hn with h | h | h | h <;> omega
      replace hT3 := Lib.hid hT3; clear hg hT2 hn hm1
      go_wp2_with fail
      refine (weights_some w w.heap.size a0 cap xs _ _ hT3.out hT3.out.choose_spec.below.size (by omega)).mono ?_; rintro e w4 ⟨v, L, rfl, hL, hT4, hg, hO, hS⟩
      have hp3 := hT3.out.choose_spec.lt
      have hw3 := hT3.out.choose_spec.below.size
      replace hT4 := Lib.hid hT4
      have HO := Lib.hid hO
      obtain ⟨base, eb⟩ : ∃ base, w3.heap.size = base := ⟨_, rfl⟩
      rw [eb] at HO hp3 hw3
      clear hg hT3 hO hS eb
      go_wp2_with fail
      refine (next_some w w.heap.size a0 cap xs _ _ hT4.out (by omega) (by omega)).mono ?_; rintro e w5 ⟨m2, rfl, hm2, hT5, hg⟩; replace hT5 := Lib.hid hT5
      have HO5 := Lib.hid (own_far HO.out hg hp3); clear hg hT4 HO
      obtain ⟨A, eA⟩ : ∃ A, m2 - 1000 = A := ⟨_, rfl⟩
      have hA : -1000 ≤ A ∧ A ≤ 1000 := by omega
      go_wp2_with fail
      refine (next_some w w.heap.size a0 cap xs _ _ hT5.out (by omega) (by omega)).mono ?_; rintro e w6 ⟨m3, rfl, hm3, hT6, hg⟩; replace hT6 := Lib.hid hT6
      have HO6 := Lib.hid (own_far HO5.out hg hp3); clear hg hT5 HO5
      go_wp2_with fail
      refine (pick_litm (ys := [m3, -1, 1099511627776, 68719476736]) w w.heap.size a0 cap xs _ _ _ _ hT6.out (by simp) (by simp) (by intro j hj; simp at hj; rcases (show j = 0 ∨ j = 1 ∨ j = 2 ∨ j = 3 by omega) with rfl | rfl | rfl | rfl <;> rfl)).mono ?_; rintro e w7 ⟨n2, rfl, hn3, hT7, hg⟩; replace hT7 := Lib.hid hT7
      have HO7 := Lib.hid (own_far HO6.out hg hp3); clear hg hT6 HO6
      obtain ⟨B, eB⟩ : ∃ B, A + n2 = B := ⟨_, rfl⟩
      have hB : wrap64 (A + n2) = B := by
        rw [← eB]; unfold wrap64; rcases pick4 hn3 with h | h | h | h <;> omega
      clear hn3 hm3 eB eA hA hm2
      by_cases hz : L.length = 0
      · obtain rfl : L = [] := List.length_eq_zero_iff.1 hz
        obtain ⟨sl, cs, rfl, hsl⟩ := HO7.out.slice
        have HSL := Lib.hid hsl
        have HQ : Hid (([] : List Int).length ≤ 9223372036854775807) := Lib.hid (by simp)
        clear hsl HO7 hL hz hn2
        by_cases h4 : k = 4
        · subst h4
          by_cases hbig : 1000 < (n1 : Int)
          · go_wp2_with fail
            go_roundw
            case rel => exact ⟨5, by omega, by go_num, hT7⟩
            case measure => simp [intOf]
          · obtain ⟨X, eX⟩ : ∃ X, boundsA ys lo hi = X := ⟨_, rfl⟩
            obtain ⟨Y, eY⟩ : ∃ Y, boundsZ ys lo hi = Y := ⟨_, rfl⟩
            obtain ⟨G, eG⟩ : ∃ G, boundsB ys lo hi = G := ⟨_, rfl⟩
            obtain ⟨C, eC⟩ : ∃ C, weightsC ys = C := ⟨_, rfl⟩
            have EX := Lib.hid eX
            have EY := Lib.hid eY
            have EG := Lib.hid eG
            have EC := Lib.hid eC
            clear eX eY eG eC
            go_wp2_with fail
            rw [← EN1.out]
            refine (fbounds_is EX.out EY.out EG.out _ _ _ (is_below us'.out hT7.out.choose_spec.below) ul'.out).mono ?_; rintro e w8 ⟨rfl, hb⟩
            have hT8 := Lib.hid (tape_more hT7.out hb); clear hb
            rw [EN1.out]
            go_wp2_with fail
            rw [← EN1.out]
            refine (rbounds_is EX.out EY.out EG.out _ _ _ (is_below us'.out hT8.out.choose_spec.below) ul'.out).mono ?_; rintro e w9 ⟨rfl, hb⟩
            have hT9 := Lib.hid (tape_more hT8.out hb); clear hb
            rw [EN1.out]
            go_wp2_with fail
            rw [← EN1.out]
            refine (fweights_is EC.out _ _ _ (is_below us'.out hT9.out.choose_spec.below) ul'.out).mono ?_; rintro e w10 ⟨rfl, hb⟩
            have hT10 := Lib.hid (tape_more hT9.out hb); clear hb
            rw [EN1.out]
            go_wp2_with fail
            rw [← EN1.out]
            refine (rweights_is EC.out _ _ _ (is_below us'.out hT10.out.choose_spec.below) ul'.out).mono ?_; rintro e w11 ⟨rfl, rfl⟩
            rw [EN1.out]
            go_wp2_with fail
            go_roundw
            case rel => exact ⟨5, by omega, by go_num, hT10⟩
            case measure => simp [intOf]
        · have h4I : ((k : Int) == 4) = false := by simp; omega
          obtain ⟨X, eX⟩ : ∃ X, boundsA ([] : List Int) A B = X := ⟨_, rfl⟩
          obtain ⟨Y, eY⟩ : ∃ Y, boundsZ ([] : List Int) A B = Y := ⟨_, rfl⟩
          obtain ⟨G, eG⟩ : ∃ G, boundsB ([] : List Int) A B = G := ⟨_, rfl⟩
          obtain ⟨C, eC⟩ : ∃ C, weightsC ([] : List Int) = C := ⟨_, rfl⟩
          have EX := Lib.hid eX
          have EY := Lib.hid eY
          have EG := Lib.hid eG
          have EC := Lib.hid eC
          clear eX eY eG eC
          go_wp2_with fail
          refine (fbounds_is EX.out EY.out EG.out _ _ _ HSL.out HQ.out).mono ?_; rintro e w8 ⟨rfl, hb⟩
          have hT8 := Lib.hid (tape_more hT7.out hb)
          have HS8 := Lib.hid (is_below HSL.out hb); clear hb
          go_wp2_with fail
          refine (rbounds_is EX.out EY.out EG.out _ _ _ HS8.out HQ.out).mono ?_; rintro e w9 ⟨rfl, hb⟩
          have hT9 := Lib.hid (tape_more hT8.out hb)
          have HS9 := Lib.hid (is_below HS8.out hb); clear hb
          go_wp2_with fail
          refine (fweights_is EC.out _ _ _ HS9.out HQ.out).mono ?_; rintro e w10 ⟨rfl, hb⟩
          have hT10 := Lib.hid (tape_more hT9.out hb)
          have HS10 := Lib.hid (is_below HS9.out hb); clear hb
          go_wp2_with fail
          refine (rweights_is EC.out _ _ _ HS10.out HQ.out).mono ?_; rintro e w11 ⟨rfl, rfl⟩
          go_wp2_with fail
          go_roundw
          case rel => exact ⟨k + 1, by omega, by go_num, hT10⟩
          case measure => simp [intOf]; omega
      · obtain ⟨g, c, rfl, hP⟩ := own_some HO7.out (by omega)
        have HP := Lib.hid hP
        have hgp : ¬ g = w.heap.size := by have := hP.lt; omega
        have hgw : w.heap.size ≤ g := by have := hP.lt; omega
        obtain ⟨ln, eln⟩ : ∃ ln, L.length = ln := ⟨_, rfl⟩
        have ELN := Lib.hid eln
        have hln : (0 : Int) < ln ∧ (ln : Int) ≤ 1000 := by omega
        have HQ := Lib.hid (show L.length ≤ 9223372036854775807 by omega)
        rw [eln]
        clear hP HO7 hL hz hp3 hw3 hn2
        go_wp2_with fail
        refine (next_some w w.heap.size a0 cap xs _ _ hT7.out (by omega) (by omega)).mono ?_; rintro e w71 ⟨m4, rfl, hm4, hT71, hg⟩; replace hT71 := Lib.hid hT71
        have HP1 := Lib.hid (HP.out.grown hg (fun e => hgp (Option.some.inj e))); clear hg hT7 HP
        by_cases h3 : m4 = 3
        · subst h3
          go_wp2_with fail
          refine (pick_lit (ys := [32767, -32767, 32768]) w w.heap.size a0 cap xs _ _ _ _ hT71.out (by simp) (by simp) (by intro j hj; simp at hj; rcases (show j = 0 ∨ j = 1 ∨ j = 2 by omega) with rfl | rfl | rfl <;> rfl)).mono ?_; rintro e w72 ⟨mm, rfl, hT72, hg⟩
          have HP2 := Lib.hid (HP1.out.grown hg (fun e => hgp (Option.some.inj e)))
          replace hT72 := Lib.hid hT72; clear hg hT71 HP1
          have kc := HP2.out.cell (k := 0) (by rw [ELN.out]; omega)
          have kf := HP2.out.frozen 0
          have hst := HP2.out.store 0 mm
          have hT73 := Lib.hid (tape_put hT72.out hgw hgp 0 (.int .i64 mm))
          have HS := Lib.hid hst.1.isS
          obtain ⟨L2, eL2⟩ : ∃ L2, L.set 0 mm = L2 := ⟨_, rfl⟩
          have EL2 := Lib.hid (show L2.length = ln by rw [← eL2, List.length_set]; exact ELN.out)
          have HQ2 := Lib.hid (show L2.length ≤ 9223372036854775807 by rw [EL2.out]; omega)
          rw [eL2] at HS
          clear hst eL2 HP2
          go_upto_region 9 with fail
          obtain ⟨wz, ewz⟩ : ∃ wz, w72.setCell ⟨g, 0, none⟩ (.int .i64 mm) = wz := ⟨_, rfl⟩
          rw [ewz] at hT73 HS
          simp only [ewz]
          clear ewz kc kf hT72
          by_cases h4 : k = 4
          · subst h4
            by_cases hbig : 1000 < (n1 : Int)
            · go_wp2_with fail
              go_roundw
              case rel => exact ⟨5, by omega, by go_num, hT73⟩
              case measure => simp [intOf]
            · obtain ⟨X, eX⟩ : ∃ X, boundsA ys lo hi = X := ⟨_, rfl⟩
              obtain ⟨Y, eY⟩ : ∃ Y, boundsZ ys lo hi = Y := ⟨_, rfl⟩
              obtain ⟨G, eG⟩ : ∃ G, boundsB ys lo hi = G := ⟨_, rfl⟩
              obtain ⟨C, eC⟩ : ∃ C, weightsC ys = C := ⟨_, rfl⟩
              have EX := Lib.hid eX
              have EY := Lib.hid eY
              have EG := Lib.hid eG
              have EC := Lib.hid eC
              clear eX eY eG eC
              go_wp2_with fail
              rw [← EN1.out]
              refine (fbounds_is EX.out EY.out EG.out _ _ _ (is_below us'.out hT73.out.choose_spec.below) ul'.out).mono ?_; rintro e w8 ⟨rfl, hb⟩
              have hT8 := Lib.hid (tape_more hT73.out hb); clear hb
              rw [EN1.out]
              go_wp2_with fail
              rw [← EN1.out]
              refine (rbounds_is EX.out EY.out EG.out _ _ _ (is_below us'.out hT8.out.choose_spec.below) ul'.out).mono ?_; rintro e w9 ⟨rfl, hb⟩
              have hT9 := Lib.hid (tape_more hT8.out hb); clear hb
              rw [EN1.out]
              go_wp2_with fail
              rw [← EN1.out]
              refine (fweights_is EC.out _ _ _ (is_below us'.out hT9.out.choose_spec.below) ul'.out).mono ?_; rintro e w10 ⟨rfl, hb⟩
              have hT10 := Lib.hid (tape_more hT9.out hb); clear hb
              rw [EN1.out]
              go_wp2_with fail
              rw [← EN1.out]
              refine (rweights_is EC.out _ _ _ (is_below us'.out hT10.out.choose_spec.below) ul'.out).mono ?_; rintro e w11 ⟨rfl, rfl⟩
              rw [EN1.out]
              go_wp2_with fail
              go_roundw
              case rel => exact ⟨5, by omega, by go_num, hT10⟩
              case measure => simp [intOf]
          · have h4I : ((k : Int) == 4) = false := by simp; omega
            obtain ⟨X, eX⟩ : ∃ X, boundsA L2 (-68719476736) 68719476736 = X := ⟨_, rfl⟩
            obtain ⟨Y, eY⟩ : ∃ Y, boundsZ L2 (-68719476736) 68719476736 = Y := ⟨_, rfl⟩
            obtain ⟨G, eG⟩ : ∃ G, boundsB L2 (-68719476736) 68719476736 = G := ⟨_, rfl⟩
            obtain ⟨C, eC⟩ : ∃ C, weightsC L2 = C := ⟨_, rfl⟩
            have EX := Lib.hid eX
            have EY := Lib.hid eY
            have EG := Lib.hid eG
            have EC := Lib.hid eC
            clear eX eY eG eC
            go_wp2_with fail
            rw [← EL2.out]
            refine (fbounds_is EX.out EY.out EG.out _ _ _ HS.out HQ2.out).mono ?_; rintro e w8 ⟨rfl, hb⟩
            have hT8 := Lib.hid (tape_more hT73.out hb)
            have HS8 := Lib.hid (is_below HS.out hb); clear hb
            rw [EL2.out]
            go_wp2_with fail
            rw [← EL2.out]
            refine (rbounds_is EX.out EY.out EG.out _ _ _ HS8.out HQ2.out).mono ?_; rintro e w9 ⟨rfl, hb⟩
            have hT9 := Lib.hid (tape_more hT8.out hb)
            have HS9 := Lib.hid (is_below HS8.out hb); clear hb
            rw [EL2.out]
            go_wp2_with fail
            rw [← EL2.out]
            refine (fweights_is EC.out _ _ _ HS9.out HQ2.out).mono ?_; rintro e w10 ⟨rfl, hb⟩
            have hT10 := Lib.hid (tape_more hT9.out hb)
            have HS10 := Lib.hid (is_below HS9.out hb); clear hb
            rw [EL2.out]
            go_wp2_with fail
            rw [← EL2.out]
            refine (rweights_is EC.out _ _ _ HS10.out HQ2.out).mono ?_; rintro e w11 ⟨rfl, rfl⟩
            rw [EL2.out]
            go_wp2_with fail
            go_roundw
            case rel => exact ⟨k + 1, by omega, by go_num, hT10⟩
            case measure => simp [intOf]; omega
        · have h3I : (m4 == 3) = false := by simp; omega
          have HS := Lib.hid HP1.out.isS
          clear HP1 hm4 h3
          by_cases h4 : k = 4
          · subst h4
            by_cases hbig : 1000 < (n1 : Int)
            · go_wp2_with fail
              go_roundw
              case rel => exact ⟨5, by omega, by go_num, hT71⟩
              case measure => simp [intOf]
            · obtain ⟨X, eX⟩ : ∃ X, boundsA ys lo hi = X := ⟨_, rfl⟩
              obtain ⟨Y, eY⟩ : ∃ Y, boundsZ ys lo hi = Y := ⟨_, rfl⟩
              obtain ⟨G, eG⟩ : ∃ G, boundsB ys lo hi = G := ⟨_, rfl⟩
              obtain ⟨C, eC⟩ : ∃ C, weightsC ys = C := ⟨_, rfl⟩
              have EX := Lib.hid eX
              have EY := Lib.hid eY
              have EG := Lib.hid eG
              have EC := Lib.hid eC
              clear eX eY eG eC
              go_wp2_with fail
              rw [← EN1.out]
              refine (fbounds_is EX.out EY.out EG.out _ _ _ (is_below us'.out hT71.out.choose_spec.below) ul'.out).mono ?_; rintro e w8 ⟨rfl, hb⟩
              have hT8 := Lib.hid (tape_more hT71.out hb); clear hb
              rw [EN1.out]
              go_wp2_with fail
              rw [← EN1.out]
              refine (rbounds_is EX.out EY.out EG.out _ _ _ (is_below us'.out hT8.out.choose_spec.below) ul'.out).mono ?_; rintro e w9 ⟨rfl, hb⟩
              have hT9 := Lib.hid (tape_more hT8.out hb); clear hb
              rw [EN1.out]
              go_wp2_with fail
              rw [← EN1.out]
              refine (fweights_is EC.out _ _ _ (is_below us'.out hT9.out.choose_spec.below) ul'.out).mono ?_; rintro e w10 ⟨rfl, hb⟩
              have hT10 := Lib.hid (tape_more hT9.out hb); clear hb
              rw [EN1.out]
              go_wp2_with fail
              rw [← EN1.out]
              refine (rweights_is EC.out _ _ _ (is_below us'.out hT10.out.choose_spec.below) ul'.out).mono ?_; rintro e w11 ⟨rfl, rfl⟩
              rw [EN1.out]
              go_wp2_with fail
              go_roundw
              case rel => exact ⟨5, by omega, by go_num, hT10⟩
              case measure => simp [intOf]
          · have h4I : ((k : Int) == 4) = false := by simp; omega
            obtain ⟨X, eX⟩ : ∃ X, boundsA L A B = X := ⟨_, rfl⟩
            obtain ⟨Y, eY⟩ : ∃ Y, boundsZ L A B = Y := ⟨_, rfl⟩
            obtain ⟨G, eG⟩ : ∃ G, boundsB L A B = G := ⟨_, rfl⟩
            obtain ⟨C, eC⟩ : ∃ C, weightsC L = C := ⟨_, rfl⟩
            have EX := Lib.hid eX
            have EY := Lib.hid eY
            have EG := Lib.hid eG
            have EC := Lib.hid eC
            clear eX eY eG eC
            go_wp2_with fail
            rw [← ELN.out]
            refine (fbounds_is EX.out EY.out EG.out _ _ _ HS.out HQ.out).mono ?_; rintro e w8 ⟨rfl, hb⟩
            have hT8 := Lib.hid (tape_more hT71.out hb)
            have HS8 := Lib.hid (is_below HS.out hb); clear hb
            rw [ELN.out]
            go_wp2_with fail
            rw [← ELN.out]
            refine (rbounds_is EX.out EY.out EG.out _ _ _ HS8.out HQ.out).mono ?_; rintro e w9 ⟨rfl, hb⟩
            have hT9 := Lib.hid (tape_more hT8.out hb)
            have HS9 := Lib.hid (is_below HS8.out hb); clear hb
            rw [ELN.out]
            go_wp2_with fail
            rw [← ELN.out]
            refine (fweights_is EC.out _ _ _ HS9.out HQ.out).mono ?_; rintro e w10 ⟨rfl, hb⟩
            have hT10 := Lib.hid (tape_more hT9.out hb)
            have HS10 := Lib.hid (is_below HS9.out hb); clear hb
            rw [ELN.out]
            go_wp2_with fail
            rw [← ELN.out]
            refine (rweights_is EC.out _ _ _ HS10.out HQ.out).mono ?_; rintro e w11 ⟨rfl, rfl⟩
            rw [ELN.out]
            go_wp2_with fail
            go_roundw
            case rel => exact ⟨k + 1, by omega, by go_num, hT10⟩
            case measure => simp [intOf]; omega
    · obtain rfl : k = 5 := by omega
      go_wp2_with fail
      refine (sane_is _).mono ?_; rintro e w7 ⟨rfl, hb⟩
      have hfin := Lib.hid (bthen hT1.out.choose_spec.below hb)
      clear hb
      go_wp2_with fail
      go_returns
      exact ⟨rfl, hfin.out⟩
namespace fixedBounds
theorem own : ownKnob Try.prog.godebug = none := by kernel_rfl
theorem laid : laidOutB Try.prog = true := by kernel_rfl
theorem params_ok : ∀ t ∈ Try.f4.params.toList, Try.prog.readableRec t = true ∧ t < Try.prog.types.size := by
  rw [Try.params4]
  intro t ht
  simp at ht
  rcases ht with rfl | rfl | rfl | rfl <;> exact ⟨by kernel_rfl, of_decide_eq_true (by kernel_rfl)⟩
set_option maxRecDepth 100000 in
theorem lifted (os : Os) (started : os.Started) (H : Type) (enc : TypeId × Value → H) :
    ReturnsInHanded {} Try.checked os 4 .any (Rows.fixedBoundsSpec.pre6 enc Try.prog Try.f4 Rows.fixedBoundsRow.domain false) (Rows.fixedBoundsSpec.post enc Try.prog Try.f4 false true false false) := by
  refine returnsInHanded_of_change (C := Try.checked) own started (by kernel_rfl) Try.func4
    (ChangeSpec.witness6 (enc := enc) (C := Try.checked) false ⟨#[], #[.slice none 0 0, .slice none 0 0, .int .i64 0, .int .i64 0], []⟩ 8 (by kernel_rfl) (by kernel_rfl) (by kernel_rfl) (by kernel_rfl)) ?_
  intro W base args ds gs before hval0 hW hcnd _
  have hval : ∀ (j : Nat) t v, Try.f4.params[j]? = some t → args[j]? = some v → Value.okWide Try.prog W .any base t v := hval0
  have hW' := hW
  obtain ⟨p, q, hA0, hV, rfl, hfz, hnd⟩ := hW
  have hA : DataW.TrodAll enc Try.prog W 0 (fun _ => true) true Try.f4.params.toList args.toList ds p := hA0
  rw [Try.params4] at hA hval
  obtain ⟨v0, vs0, d0, ds0, p0, q0, hargs, rfl, rfl, h0, r0⟩ := trodAll_cons hA
  obtain ⟨v1, vs1, d1, ds1, p1, q1, rfl, rfl, rfl, h1, r1⟩ := trodAll_cons r0
  obtain ⟨v2, vs2, d2, ds2, p2, q2, rfl, rfl, rfl, h2, r2⟩ := trodAll_cons r1
  obtain ⟨v3, vs3, d3, ds3, p3, q3, rfl, rfl, rfl, h3, r3⟩ := trodAll_cons r2
  obtain ⟨rfl, rfl, rfl⟩ := trodAll_nil r3
  obtain rfl : args = #[v0, v1, v2, v3] := by cases args; simp_all
  obtain ⟨rfl, rfl⟩ := trodVars_none hV
  obtain ⟨a0, len, cap, rfl⟩ := okWide_slice Try.underlying23 (hval 0 23 v0 rfl rfl)
  obtain ⟨xs, rfl, hs, hf, hl⟩ := open_list h0
  obtain ⟨b1, len1, d1c, rfl⟩ := okWide_slice Try.underlying23 (hval 1 23 v1 rfl rfl)
  obtain ⟨ys1, rfl, us1, uf1, ul1⟩ := open_list h1
  obtain ⟨i2, rfl, rfl, rfl, w2⟩ := open_int Try.underlying3 (hval 2 3 v2 rfl rfl) h2
  obtain ⟨i3, rfl, rfl, rfl, w3⟩ := open_int Try.underlying3 (hval 3 3 v3 rfl rfl) h3
  clear hA0 hval0
  have fin : Calls Try.prog 4 #[.slice a0 xs.length cap, .slice b1 ys1.length d1c, .int .i64 i2, .int .i64 i3] W (TestPost true W) := bounds_walk xs a0 cap ys1 b1 d1c i2 i3 W hs hf hl us1 ul1
  refine fin.mono fun e W' ⟨he, hb⟩ => ?_
  subst he
  exact ⟨_, rfl, law_post laid rfl Try.underlying4 params_ok rfl hW' rfl hb⟩

theorem over : Rows.fixedBoundsRow.holds Try.pinned (OpenSpec.ofChange Rows.fixedBoundsSpec) :=
  OpenClaim.holds_of_wide 4 Try.f4 rfl rfl rfl rfl rfl rfl rfl ⟨rfl, rfl, rfl, rfl, rfl⟩ rfl rfl rfl rfl rfl (by kernel_rfl) Try.func4 (by kernel_rfl)
    (of_decide_eq_true (by kernel_rfl)) (by unfold Func.isWrapper; first | (rw [if_pos (by decide +kernel)]; kernel_rfl) | (rw [if_neg (by decide +kernel)]; exact ⟨rfl, rfl⟩))
    (fun os started H enc _ => lifted os started H enc)

/-- the statement -/
theorem proved : Rows.FixedBoundsSaid := over
#print axioms proved
end fixedBounds
end Go.Proofs.Ytngaocfokdlhaaa
