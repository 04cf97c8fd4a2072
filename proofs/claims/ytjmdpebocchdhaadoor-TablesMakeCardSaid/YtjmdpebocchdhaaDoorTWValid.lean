/- Valid of the package tables as a contract, and the small tests of lengths, coordinates and shifts. -/
import Derived.Test.YtjmdpebocchdhaaDoorTValid
import Derived.Test.YtjmdpebocchdhaaDoorHProg
namespace Go.Proofs.YtjmdpebocchdhaaDoor
open Go.ChangeShapes Go.WideShapes Go.ChangeAt Go.RowKit
set_option linter.unusedVariables false
set_option linter.unusedSimpArgs false

theorem wside_is {n : Int} {b : Bool} (h : sideT n = b) (w : World) : Calls Tryd.prog 25 #[.int .i64 n] w fun e w' => e = .returned (.bool b) ∧ w = w' := by
  subst h
  go_enter Tryd.func25, Tryd.ntmps25
  go_wp2
  all_goals (go_ret; refine ⟨ret_bool ?_, rfl⟩; unfold sideT; first | (simp; done) | (simp; omega) | (simp at *; omega))
theorem wfirst_is {n : Int} {b : Bool} (h : firstT n = b) (w : World) : Calls Tryd.prog 35 #[.int .i64 n] w fun e w' => e = .returned (.bool b) ∧ w = w' := by
  subst h
  go_enter Tryd.func35, Tryd.ntmps35
  go_wp2
  all_goals (go_ret; refine ⟨ret_bool ?_, rfl⟩; unfold firstT; first | (simp; done) | (simp; omega) | (simp at *; omega))
theorem wsizes_is {n m s c : Int} (h : makeC n m s = c) (w : World) : Calls Tryd.prog 30 #[.int .i64 n, .int .i64 m, .int .i64 s] w fun e w' => e = .returned (.int .i64 c) ∧ w = w' := by
  rcases make_cases n m s with ⟨h1, hc⟩ | ⟨h1, h2, hc⟩ | ⟨h1, h2, h3, hc⟩ | ⟨h1, h2, h3, hc⟩ | ⟨h1, h2, h3, hc⟩
  all_goals
    rw [hc] at h
    subst h
    have H1 := Lib.hid h1
    (try have H2 := Lib.hid h2)
    clear hc h1
    (try clear h2)
    go_enter Tryd.func30, Tryd.ntmps30
    go_wp2_with fail
    refine (wside_is H1.out _).mono ?_; rintro e w1 ⟨rfl, rfl⟩
    go_wp2_with fail
    (try (refine (wside_is H2.out _).mono ?_; rintro e w1 ⟨rfl, rfl⟩; go_wp2_with fail))
    go_ret
    exact ⟨rfl, rfl⟩
theorem fweights_l {L : List Int} {c : Int} {l : Nat} (hc : weightsC L = c) (e : L.length = l) (a : Option Addr) (cap : Nat) (w : World) (hs : SliceIs w a L) (hl : l ≤ 9223372036854775807) : Calls Tryd.prog 38 #[.slice a l cap] w fun e w' => e = .returned (.int .i64 c) ∧ w = w' := by
  subst e; exact fweights_same hc a cap w hs hl
/-- the ways through a tap, by the code of its weights -/
theorem wtap_cases (t : Tp) : (8 < t.L.length ∧ tapE t = 9) ∨ (t.L.length ≤ 8 ∧ ∃ c, c ≠ 0 ∧ weightsC t.L = c ∧ tapE t = c) ∨ (t.L.length ≤ 8 ∧ weightsC t.L = 0 ∧ firstT t.f = false ∧ tapE t = 2) ∨ (t.L.length ≤ 8 ∧ weightsC t.L = 0 ∧ firstT t.f = true ∧ tapE t = 0) := by
  unfold weightsC
  rcases tap_cases t with ⟨h, h2⟩ | ⟨h, h2, h3⟩ | ⟨h, h2, h3, h4⟩ | ⟨h, h2, h3, h4⟩
  · by_cases g : 8 < t.L.length
    · left; exact ⟨g, h2⟩
    · right; left
      exact ⟨by omega, 9, by decide, by rw [if_pos (.inl (by omega))], h2⟩
  · right; left
    exact ⟨by omega, 10, by decide, by rw [if_neg (by omega), h2]; rfl, h3⟩
  · right; right; left
    exact ⟨by omega, by rw [if_neg (by omega), h2]; rfl, h3, h4⟩
  · right; right; right
    exact ⟨by omega, by rw [if_neg (by omega), h2]; rfl, h3, h4⟩
theorem wtap_is {x : Int} {L : List Int} {c : Int} {l : Nat} (hc : tapE ⟨x, L⟩ = c) (e : L.length = l) (a : Option Addr) (cap : Nat) (w : World) (hs : SliceIs w a L) : Calls Tryd.prog 26 #[.agg #[.int .i64 x, .slice a l cap]] w (NumPost c w) := by
  have HS := Lib.hid (fun o => is_below hs (balloc (bref w) o))
  have HB := Lib.hid (fun o => balloc (bref w) o)
  have EL := Lib.hid e
  have hw := wtap_cases ⟨x, L⟩
  rw [hc] at hw
  dsimp only at hw
  rw [e] at hw
  clear hs hc e
  rcases hw with ⟨h1, rfl⟩ | ⟨h1, c1, h2, h3, rfl⟩ | ⟨h1, h2, h3, rfl⟩ | ⟨h1, h2, h3, rfl⟩
  · have h8 : (8 : Int) < l := by omega
    go_enter Tryd.func26, Tryd.ntmps26
    go_wp2_with fail
    go_ret
    exact ⟨rfl, HB.out _⟩
  · have h8 : ¬ (8 : Int) < l := by omega
    have H3 := Lib.hid h3
    have hc0 : (c == 0) = false := by simpa using h2
    have hc1 : ¬ c = 0 := h2
    clear h3 h2
    go_enter Tryd.func26, Tryd.ntmps26
    go_wp2_with fail
    refine (fweights_l H3.out EL.out _ _ _ (HS.out _) (by omega)).mono ?_; rintro e w2 ⟨rfl, rfl⟩
    go_wp2_with fail
    go_ret
    exact ⟨rfl, HB.out _⟩
  · have h8 : ¬ (8 : Int) < l := by omega
    have H2 := Lib.hid h2
    have H3 := Lib.hid h3
    clear h3 h2
    go_enter Tryd.func26, Tryd.ntmps26
    go_wp2_with fail
    refine (fweights_l H2.out EL.out _ _ _ (HS.out _) (by omega)).mono ?_; rintro e w2 ⟨rfl, rfl⟩
    go_wp2_with fail
    refine (wfirst_is H3.out _).mono ?_; rintro e w2 ⟨rfl, rfl⟩
    go_wp2_with fail
    go_ret
    exact ⟨rfl, HB.out _⟩
  · have h8 : ¬ (8 : Int) < l := by omega
    have H2 := Lib.hid h2
    have H3 := Lib.hid h3
    clear h3 h2
    go_enter Tryd.func26, Tryd.ntmps26
    go_wp2_with fail
    refine (fweights_l H2.out EL.out _ _ _ (HS.out _) (by omega)).mono ?_; rintro e w2 ⟨rfl, rfl⟩
    go_wp2_with fail
    refine (wfirst_is H3.out _).mono ?_; rintro e w2 ⟨rfl, rfl⟩
    go_wp2_with fail
    go_ret
    exact ⟨rfl, HB.out _⟩
set_option maxRecDepth 100000 in
set_option maxHeartbeats 4000000 in
theorem wvalid_in (V : List Tv) (n : Int) (a : Option Addr) (cap : Nat) (w : World) (ha : TapsIs w a V) (hn : sideT n = true) (hl : sideT V.length = true) : Calls Tryd.prog 13 #[.slice a V.length cap, .int .i64 n] w (NumPost (errV (V.map Tv.tp)) w) := by
  have ha' := Lib.hid ha
  have HN := Lib.hid hn
  have hlb := sideT_t.1 hl
  obtain ⟨ln, en⟩ : ∃ ln, V.length = ln := ⟨_, rfl⟩
  rw [en] at hl hlb ⊢
  have HL := Lib.hid hl
  have EN := Lib.hid en
  clear ha hn hl en
  go_enter Tryd.func13, Tryd.ntmps13
  go_wp2_with fail
  refine (wside_is HN.out _).mono ?_; rintro e w1 ⟨rfl, rfl⟩
  go_wp2_with fail
  refine (wside_is HL.out _).mono ?_; rintro e w1 ⟨rfl, rfl⟩
  go_wp2_with fail
  go_loopw [19] (fun i wr => ∃ k : Nat, k ≤ ln ∧ i = .int .i64 k ∧ Hid (errV (V.map Tv.tp) = errV ((V.map Tv.tp).drop k)) ∧ Hid (Below w.heap.size w wr)) (fun i _ => ln - (intOf i).toNat)
  case atStart => exact ⟨0, by omega, rfl, Lib.hid (by simp), Lib.hid (bref _)⟩
  case round =>
    obtain ⟨k, hk, rfl, HE, HB⟩ := hrel
    by_cases hlt : k < ln
    · have hkV : k < V.length := by rw [EN.out]; exact hlt
      obtain ⟨b, off, rfl, c1, c2, s1⟩ := taps_below ha'.out HB.out k hkV
      have hkI : (k : Int) < ln := by omega
      have htp := tp_at hkV
      obtain ⟨t, et⟩ : ∃ t, V.getD k tv0 = t := ⟨_, rfl⟩
      rw [et] at c1 c2 s1 htp
      obtain ⟨x, ta, tc, L⟩ := t
      dsimp only [Tv.val] at c1 c2 s1
      replace htp : (V.map Tv.tp)[k]? = some (⟨x, L⟩ : Tp) := htp
      have HB2 := Lib.hid (balloc HB.out (.cells #[.int .i64 x, .slice ta L.length tc] 31))
      have S1 := Lib.hid (is_below s1 (balloc (bref wr) (.cells #[.int .i64 x, .slice ta L.length tc] 31)))
      obtain ⟨l, el⟩ : ∃ l, L.length = l := ⟨_, rfl⟩
      rw [el] at c2 HB2 S1
      have EL := Lib.hid el
      obtain ⟨c, ec⟩ : ∃ c, tapE ⟨x, L⟩ = c := ⟨_, rfl⟩
      have EC := Lib.hid ec
      clear s1 et el HB
      by_cases h0 : c = 0
      · subst h0
        have HE2 := Lib.hid (HE.out.trans (errV_go htp ec))
        clear htp ec HE
        go_wp2_with fail
        refine (wtap_is EC.out EL.out _ _ _ S1.out).mono ?_; rintro e w2 ⟨rfl, hb⟩
        have HB3 := Lib.hid (bthen HB2.out hb)
        clear hb
        go_wp2_with fail
        go_roundw
        case rel => exact ⟨k + 1, by omega, by go_num, HE2, HB3⟩
        case measure => simp [intOf]; omega
      · have HR := Lib.hid (HE.out.trans (errV_stop htp ec h0))
        have hc0 : (c == 0) = false := by simpa using h0
        clear htp ec HE
        go_wp2_with fail
        refine (wtap_is EC.out EL.out _ _ _ S1.out).mono ?_; rintro e w2 ⟨rfl, hb⟩
        have HB3 := Lib.hid (bthen HB2.out hb)
        clear hb
        go_wp2_with fail
        go_ret
        exact ⟨ret_int HR.out.symm, HB3.out⟩
    · obtain rfl : k = ln := by omega
      have HR := Lib.hid (HE.out.trans (show errV ((V.map Tv.tp).drop k) = 0 by rw [List.drop_eq_nil_of_le (by simp; rw [EN.out]; omega)]; rfl))
      go_wp2_with fail
      go_ret
      exact ⟨ret_int HR.out.symm, HB.out⟩
theorem wvalid_any (V : List Tv) (n : Int) (a : Option Addr) (cap l : Nat) (c : Int) (w : World) (ha : TapsIs w a V) (el : V.length = l) (hl : l ≤ 9223372036854775807) (hc : validC (V.map Tv.tp) n = c) : Calls Tryd.prog 13 #[.slice a l cap, .int .i64 n] w (NumPost c w) := by
  subst el
  subst hc
  have el : ((V.map Tv.tp).length : Int) = V.length := by simp
  rcases hn : sideT n with _ | _
  · have HN := Lib.hid hn
    have HR := Lib.hid (show validC (V.map Tv.tp) n = 8 by unfold validC; rw [if_pos (.inl hn)])
    clear hn ha el
    go_enter Tryd.func13, Tryd.ntmps13
    go_wp2_with fail
    refine (wside_is HN.out _).mono ?_; rintro e w1 ⟨rfl, rfl⟩
    go_wp2_with fail
    go_ret
    exact ⟨ret_int HR.out.symm, bref _⟩
  · rcases hv : sideT V.length with _ | _
    · have HN := Lib.hid hn
      have HV := Lib.hid hv
      have HR := Lib.hid (show validC (V.map Tv.tp) n = 8 by unfold validC; rw [el, if_pos (.inr hv)])
      clear hn hv ha el
      go_enter Tryd.func13, Tryd.ntmps13
      go_wp2_with fail
      refine (wside_is HN.out _).mono ?_; rintro e w1 ⟨rfl, rfl⟩
      go_wp2_with fail
      refine (wside_is HV.out _).mono ?_; rintro e w1 ⟨rfl, rfl⟩
      go_wp2_with fail
      go_ret
      exact ⟨ret_int HR.out.symm, bref _⟩
    · have : validC (V.map Tv.tp) n = errV (V.map Tv.tp) := by unfold validC; rw [el, hn, hv, if_neg (by simp)]
      rw [this]
      exact wvalid_in V n a cap w ha hn hv
end Go.Proofs.YtjmdpebocchdhaaDoor
