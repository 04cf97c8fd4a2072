/- What the laws of layer 8 share: tables as cells; the chapter's examples. -/
import Derived.Test.YtjmdpebocchdhaaDoorTProg
import Derived.Test.YtjmdpebocchdhaaDoorTSumPlain
import Derived.Test.YtjmdpebocchdhaaDoorLaw
import Derived.Test.YtjmdpebocchdhaaDoorTape
import Derived.Test.YtjmdpebocchdhaaDoorDoor
namespace Go.Proofs.YtjmdpebocchdhaaDoor
open Go.ChangeShapes Go.WideShapes Go.ChangeAt Go.RowKit
set_option linter.unusedVariables false
set_option linter.unusedSimpArgs false

theorem mod_rng (v n : Int) (w : World) (h0 : 0 < n) (h1 : n ≤ 9223372036854775807) (h2 : -9223372036854775808 ≤ v) (h3 : v ≤ 9223372036854775807) {r : Int} (hr : v % n = r) :
    Calls Tryd.prog 16 #[.int .i64 v, .int .i64 n] w fun e w' => e = .returned (.int .i64 r) ∧ w = w' := by
  rw [← hr]; exact (mod_any v n w h0 h1 h2 h3).mono fun e w' h => ⟨h.1, h.2⟩
/-- a table of one's own as cells -/
theorem tap_at {base : Nat} {w : World} {v : Value} {V : List Tv} {T : List Tp} (h : OwnT base w v V) (e : V.map Tv.tp = T) (hT : 1 ≤ T.length) : ∃ g c : Nat, v = .slice (some ⟨g, 0, none⟩) T.length c ∧ TapsIs w (some ⟨g, 0, none⟩) V ∧
    ∀ (k : Nat) (f : Int) (L : List Int), T[k]? = some ⟨f, L⟩ → w.cell? ⟨g, k * 2, none⟩ = some (.int .i64 f) ∧ ∃ (ad : Option Addr) (cp : Nat), w.cell? ⟨g, k * 2 + 1, none⟩ = some (.slice ad L.length cp) ∧ SliceIs w ad L := by
  have hl : V.length = T.length := (by rw [← e]; simp)
  rcases h.1.2 with ⟨rfl, hn⟩ | ⟨g, c, cur, rfl, _⟩
  · omega
  · have hO := h.1
    rw [hl] at hO
    obtain ⟨a, cap, ea, hTaps⟩ := h.taps
    rw [hl] at ea ⊢
    cases ea
    refine ⟨g, c, rfl, hTaps, fun k f L hk => ?_⟩
    have hkl : k < V.length := by rw [hl]; exact (List.getElem?_eq_some_iff.1 hk).1
    obtain ⟨b, off, e1, c1, c2, s1⟩ := hTaps k hkl
    cases e1
    have ht : (V.getD k tv0).tp = ⟨f, L⟩ := by
      rw [← e, List.getElem?_map, List.getElem?_eq_getElem hkl] at hk
      rw [List.getD_eq_getElem?_getD, List.getElem?_eq_getElem hkl]
      simpa using hk
    obtain ⟨t, et⟩ : ∃ t, V.getD k tv0 = t := ⟨_, rfl⟩
    rw [et] at c1 c2 s1 ht
    obtain ⟨x, ta, tc, M⟩ := t
    cases ht
    rw [Nat.zero_add] at c1 c2
    exact ⟨c1, ta, tc, c2, s1⟩
/-- a slice that is not empty, as an address and its cells -/
theorem is_at {w : World} {a : Option Addr} {L : List Int} (h : SliceIs w a L) (hl : 1 ≤ L.length) : ∃ b off, a = some ⟨b, off, none⟩ ∧ ∀ k, k < L.length → w.cell? ⟨b, off + k, none⟩ = some (.int .i64 (L.getD k 0)) := by
  obtain ⟨b, off, rfl, _⟩ := h 0 (by omega)
  refine ⟨b, off, rfl, fun k hk => ?_⟩
  obtain ⟨b', off', e, hc⟩ := h k hk
  cases e
  exact hc
theorem ex_box : boxT 5 2 8 = [⟨0, [103, 102, 51]⟩, ⟨2, [51, 103, 102]⟩] ∧ boxC 5 2 8 = 0 := by decide +kernel
theorem ex_lin : linT 2 4 8 = [⟨-1, [64, 192]⟩, ⟨0, [192, 64]⟩, ⟨0, [64, 192]⟩, ⟨1, [192, 64]⟩] ∧ makeC 2 4 8 = 0 := by decide +kernel
theorem ex_quant : qtT [3] [[4607182418800017408]] 4 = [⟨3, [16]⟩] ∧ qtC [3] [[4607182418800017408]] 4 = 0 := by decide +kernel
theorem ex_valid : validC [⟨0, [103, 102, 51]⟩, ⟨2, [51, 103, 102]⟩] 5 = 0 := by decide +kernel
end Go.Proofs.YtjmdpebocchdhaaDoor
