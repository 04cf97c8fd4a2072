/- Valid of the reference's tables as a contract: the code; the world gets new blocks at most. -/
import Derived.Test.YtjmdpebocchdhaaDoorTLinear
import Derived.Test.YtjmdpebocchdhaaDoorTSame
import Derived.Test.YtjmdpebocchdhaaDoorHBounds
namespace Go.Proofs.YtjmdpebocchdhaaDoor
open Go.ChangeShapes Go.WideShapes Go.ChangeAt Go.RowKit
set_option linter.unusedVariables false
set_option linter.unusedSimpArgs false

theorem rareW_l {L : List Int} {b : Bool} {l : Nat} (hb : L.all weightB = b) (e : L.length = l) (a : Option Addr) (cap : Nat) (w : World) (hs : SliceIs w a L) (hl : l ≤ 9223372036854775807) : Calls Tryd.prog 28 #[.slice a l cap] w fun e w' => e = .returned (.bool b) ∧ w = w' := by
  subst e; exact rareW_is hb a cap w hs hl
theorem errV_drop {T : List Tp} {k : Nat} {t : Tp} (h : T[k]? = some t) : errV (T.drop k) = if tapE t = 0 then errV (T.drop (k + 1)) else tapE t := by
  have hk : k < T.length := by
    rcases Nat.lt_or_ge k T.length with g | g
    · exact g
    · rw [List.getElem?_eq_none g] at h; cases h
  rw [List.getElem?_eq_getElem hk] at h
  rw [List.drop_eq_getElem_cons hk, Option.some.inj h]
  rfl
theorem errV_stop {T : List Tp} {k : Nat} {t : Tp} {c : Int} (h : T[k]? = some t) (hc : tapE t = c) (h0 : c ≠ 0) : errV (T.drop k) = c := by rw [errV_drop h, hc, if_neg h0]
theorem errV_go {T : List Tp} {k : Nat} {t : Tp} (h : T[k]? = some t) (hc : tapE t = 0) : errV (T.drop k) = errV (T.drop (k + 1)) := by rw [errV_drop h, hc, if_pos rfl]
/-- the ways through a tap -/
theorem tap_cases (t : Tp) : ((t.L.length = 0 ∨ 8 < t.L.length) ∧ tapE t = 9) ∨ ((1 ≤ t.L.length ∧ t.L.length ≤ 8) ∧ t.L.all weightB = false ∧ tapE t = 10) ∨ ((1 ≤ t.L.length ∧ t.L.length ≤ 8) ∧ t.L.all weightB = true ∧ firstT t.f = false ∧ tapE t = 2) ∨ ((1 ≤ t.L.length ∧ t.L.length ≤ 8) ∧ t.L.all weightB = true ∧ firstT t.f = true ∧ tapE t = 0) := by
  unfold tapE
  by_cases h : t.L.length = 0 ∨ 8 < t.L.length
  · left; exact ⟨h, by rw [if_pos h]⟩
  · right
    rw [if_neg h]
    cases hw : t.L.all weightB
    · left; exact ⟨by omega, rfl, by simp⟩
    · right
      cases hf : firstT t.f
      · left; exact ⟨by omega, rfl, rfl, by simp⟩
      · right; exact ⟨by omega, rfl, rfl, by simp⟩
set_option maxRecDepth 100000 in
set_option maxHeartbeats 4000000 in
theorem rtvalid_in (V : List Tv) (n : Int) (a : Option Addr) (cap : Nat) (w : World) (ha : TapsIs w a V) (hn : sideT n = true) (hl : sideT V.length = true) : Calls Tryd.prog 14 #[.slice a V.length cap, .int .i64 n] w (NumPost (errV (V.map Tv.tp)) w) := by
  have ha' := Lib.hid ha
  have HN := Lib.hid hn
  have hlb := sideT_t.1 hl
  obtain ⟨ln, en⟩ : ∃ ln, V.length = ln := ⟨_, rfl⟩
  rw [en] at hl hlb ⊢
  have HL := Lib.hid hl
  have EN := Lib.hid en
  clear ha hn hl en
  go_enter Tryd.func14, Tryd.ntmps14
  go_wp2_with fail
  refine (rside_is HN.out _).mono ?_; rintro e w1 ⟨rfl, rfl⟩
  go_wp2_with fail
  refine (rside_is HL.out _).mono ?_; rintro e w1 ⟨rfl, rfl⟩
  go_wp2_with fail
  go_loopw [5] (fun i wr => ∃ k : Nat, k ≤ ln ∧ i = .int .i64 k ∧ Hid (errV (V.map Tv.tp) = errV ((V.map Tv.tp).drop k)) ∧ Hid (Below w.heap.size w wr)) (fun i _ => ln - (intOf i).toNat)
  case atStart => exact ⟨0, by omega, rfl, Lib.hid (by simp), Lib.hid (bref _)⟩
  case round =>
    obtain ⟨k, hk, rfl, HE, HB⟩ := hrel
    by_cases hlt : k < ln
    · have hkV : k < V.length := by rw [EN.out]; exact hlt
      obtain ⟨b, off, rfl, c1, c2, s1⟩ := taps_below ha'.out HB.out k hkV
      have hkI : (k : Int) < ln := by omega
      have htp := tp_at hkV
      obtain ⟨t, et⟩ : ∃ t, V.getD k tv0 = t := ⟨_, rfl⟩
      rw [et] at c1 c2 s1 htp
      obtain ⟨x, ta, tc, L⟩ := t
      dsimp only [Tv.val] at c1 c2 s1
      replace htp : (V.map Tv.tp)[k]? = some (⟨x, L⟩ : Tp) := htp
      have HB2 := Lib.hid (balloc HB.out (.cells #[.int .i64 x, .slice ta L.length tc] 31))
      have S1 := Lib.hid (is_below s1 (balloc (bref wr) (.cells #[.int .i64 x, .slice ta L.length tc] 31)))
      have hc := tap_cases ⟨x, L⟩
      dsimp only at hc
      obtain ⟨l, el⟩ : ∃ l, L.length = l := ⟨_, rfl⟩
      rw [el] at c2 hc HB2 S1
      have EL := Lib.hid el
      clear s1 et el HB
      rcases hc with ⟨h1, h2⟩ | ⟨h1, h2, h3⟩ | ⟨h1, h2, h3, h4⟩ | ⟨h1, h2, h3, h4⟩
      · have hstep := errV_stop htp h2 (by decide)
        have HR := Lib.hid (HE.out.trans hstep)
        clear htp hstep h2 HE
        rcases h1 with rfl | h1
        all_goals
          (try (have h0 : ((l : Int) == 0) = false := by simp; omega))
          (try (have h8 : (8 : Int) < l := by omega))
          go_wp2_with fail
          go_ret
          exact ⟨ret_int HR.out.symm, HB2.out⟩
      · have hstep := errV_stop htp h3 (by decide)
        have HR := Lib.hid (HE.out.trans hstep)
        have H2 := Lib.hid h2
        have h0 : ((l : Int) == 0) = false := by simp; omega
        have h8 : (l : Int) ≤ 8 := by omega
        clear htp hstep h3 HE h2
        go_wp2_with fail
        refine (rareW_l H2.out EL.out _ _ _ S1.out (by omega)).mono ?_; rintro e w2 ⟨rfl, rfl⟩
        go_wp2_with fail
        go_ret
        exact ⟨ret_int HR.out.symm, HB2.out⟩
      · have hstep := errV_stop htp h4 (by decide)
        have HR := Lib.hid (HE.out.trans hstep)
        have H2 := Lib.hid h2
        have H3 := Lib.hid h3
        have h0 : ((l : Int) == 0) = false := by simp; omega
        have h8 : (l : Int) ≤ 8 := by omega
        clear htp hstep h4 HE h2 h3
        go_wp2_with fail
        refine (rareW_l H2.out EL.out _ _ _ S1.out (by omega)).mono ?_; rintro e w2 ⟨rfl, rfl⟩
        go_wp2_with fail
        refine (rfirst_is H3.out _).mono ?_; rintro e w2 ⟨rfl, rfl⟩
        go_wp2_with fail
        go_ret
        exact ⟨ret_int HR.out.symm, HB2.out⟩
      · have hstep := errV_go htp h4
        have HE2 := Lib.hid (HE.out.trans hstep)
        have H2 := Lib.hid h2
        have H3 := Lib.hid h3
        have h0 : ((l : Int) == 0) = false := by simp; omega
        have h8 : (l : Int) ≤ 8 := by omega
        clear htp hstep h4 HE h2 h3
        go_wp2_with fail
        refine (rareW_l H2.out EL.out _ _ _ S1.out (by omega)).mono ?_; rintro e w2 ⟨rfl, rfl⟩
        go_wp2_with fail
        refine (rfirst_is H3.out _).mono ?_; rintro e w2 ⟨rfl, rfl⟩
        go_wp2_with fail
        go_roundw
        case rel => exact ⟨k + 1, by omega, by go_num, HE2, HB2⟩
        case measure => simp [intOf]; omega
    · obtain rfl : k = ln := by omega
      have HR := Lib.hid (HE.out.trans (show errV ((V.map Tv.tp).drop k) = 0 by rw [List.drop_eq_nil_of_le (by simp; rw [EN.out]; omega)]; rfl))
      go_wp2_with fail
      go_ret
      exact ⟨ret_int HR.out.symm, HB.out⟩
theorem rtvalid_any (V : List Tv) (n : Int) (a : Option Addr) (cap : Nat) (w : World) (ha : TapsIs w a V) (hl : V.length ≤ 9223372036854775807) : Calls Tryd.prog 14 #[.slice a V.length cap, .int .i64 n] w (NumPost (validC (V.map Tv.tp) n) w) := by
  have el : ((V.map Tv.tp).length : Int) = V.length := by simp
  rcases hn : sideT n with _ | _
  · have HN := Lib.hid hn
    have HR := Lib.hid (show validC (V.map Tv.tp) n = 8 by unfold validC; rw [if_pos (.inl hn)])
    clear hn ha el
    go_enter Tryd.func14, Tryd.ntmps14
    go_wp2_with fail
    refine (rside_is HN.out _).mono ?_; rintro e w1 ⟨rfl, rfl⟩
    go_wp2_with fail
    go_ret
    exact ⟨ret_int HR.out.symm, bref _⟩
  · rcases hv : sideT V.length with _ | _
    · have HN := Lib.hid hn
      have HV := Lib.hid hv
      have HR := Lib.hid (show validC (V.map Tv.tp) n = 8 by unfold validC; rw [el, if_pos (.inr hv)])
      clear hn hv ha el
      go_enter Tryd.func14, Tryd.ntmps14
      go_wp2_with fail
      refine (rside_is HN.out _).mono ?_; rintro e w1 ⟨rfl, rfl⟩
      go_wp2_with fail
      refine (rside_is HV.out _).mono ?_; rintro e w1 ⟨rfl, rfl⟩
      go_wp2_with fail
      go_ret
      exact ⟨ret_int HR.out.symm, bref _⟩
    · have : validC (V.map Tv.tp) n = errV (V.map Tv.tp) := by unfold validC; rw [el, hn, hv, if_neg (by simp)]
      rw [this]
      exact rtvalid_in V n a cap w ha hn hv
end Go.Proofs.YtjmdpebocchdhaaDoor
