/- The tape's Table as a contract: some table in new memory. -/
import Derived.Test.YtjmdpebocchdhaaDoorTBox
import Derived.Test.YtjmdpebocchdhaaDoorWeights
namespace Go.Proofs.YtjmdpebocchdhaaDoor
open Go.ChangeShapes Go.WideShapes Go.ChangeAt Go.RowKit
set_option linter.unusedVariables false
set_option linter.unusedSimpArgs false

theorem own_row {base : Nat} {w : World} {v : Value} {L : List Int} (h : OwnL base w v L) (hl : 1 ≤ L.length) : ∃ g cap, v = .slice (some ⟨g, 0, none⟩) L.length cap ∧ PixAt base w g cap L := by
  rcases h.2 with ⟨rfl, hn⟩ | ⟨g, cap, cur, rfl, _⟩
  · omega
  · exact ⟨g, cap, rfl, h⟩
theorem own_taps {base : Nat} {w : World} {v : Value} {V : List Tv} (h : OwnT base w v V) (hl : 1 ≤ V.length) : ∃ g cap, v = .slice (some ⟨g, 0, none⟩) V.length cap := by
  rcases h.1.2 with ⟨rfl, hn⟩ | ⟨g, cap, cur, rfl, _⟩
  · omega
  · exact ⟨g, cap, rfl⟩
theorem linT_len (n m s : Int) : (linT n m s).length ≤ 128 := by
  unfold linT
  split
  · rename_i h
    rcases make_cases n m s with ⟨_, hc⟩ | ⟨_, _, hc⟩ | ⟨_, _, _, hc⟩ | ⟨_, _, _, hc⟩ | ⟨_, h2, _, _⟩
    · omega
    · omega
    · omega
    · omega
    · rw [linL_len]; have := sideT_t.1 h2; omega
  · simp
theorem boxT_len (n m s : Int) : (boxT n m s).length ≤ 128 := by
  unfold boxT
  split
  · rename_i h
    have hm : makeC n m s = 0 := by
      by_cases g : makeC n m s = 0
      · exact g
      · unfold boxC at h; rw [if_pos g] at h; exact h
    rcases make_cases n m s with ⟨_, hc⟩ | ⟨_, _, hc⟩ | ⟨_, _, _, hc⟩ | ⟨_, _, _, hc⟩ | ⟨_, h2, _, _⟩
    · omega
    · omega
    · omega
    · omega
    · rw [boxL_len]; have := sideT_t.1 h2; omega
  · simp
theorem map_len {V : List Tv} {T : List Tp} (h : V.map Tv.tp = T) : V.length = T.length := by rw [← h]; simp
/-- some table came back, in new memory -/
def TablePost (W : World) (p : Nat) (a : Option Addr) (cap : Nat) (xs : List Int) (w : World) (e : Ending) (w' : World) : Prop :=
  ∃ (v : Value) (V : List Tv), e = .returned v ∧ OwnT w.heap.size w' v V ∧ V.length ≤ 128 ∧ TapeSome W w' p a cap xs ∧ w.grownBy w' (some p)
theorem tape_mr {W w w' : World} {p : Nat} {a : Option Addr} {cap : Nat} {xs : List Int} (h : TapeSome W w p a cap xs) (hb : Below w.heap.size w w') : TapeSome W w' p a cap xs := ⟨h.choose, h.choose_spec.more hb⟩
/-- where the making of a table stands -/
def TabAt (W : World) (p : Nat) (a : Option Addr) (cap : Nat) (xs : List Int) (w : World) (v : Value) (V : List Tv) (wr : World) : Prop := TapeSome W wr p a cap xs ∧ w.grownBy wr (some p) ∧ OwnT w.heap.size wr v V ∧ V.length ≤ 128
theorem TabAt.call {W : World} {p : Nat} {a : Option Addr} {cap : Nat} {xs : List Int} {w : World} {v : Value} {V : List Tv} {wr w' : World} (h : TabAt W p a cap xs w v V wr) (hp : p < w.heap.size) (hT : TapeSome W w' p a cap xs) (hg : wr.grownBy w' (some p)) : TabAt W p a cap xs w v V w' :=
  ⟨hT, gthen h.2.1 hg, h.2.2.1.grown hg hp, h.2.2.2⟩
theorem TabAt.below {W : World} {p : Nat} {a : Option Addr} {cap : Nat} {xs : List Int} {w : World} {v : Value} {V : List Tv} {wr w' : World} (h : TabAt W p a cap xs w v V wr) (hb : Below wr.heap.size wr w') : TabAt W p a cap xs w v V w' :=
  ⟨tape_mr h.1 hb, gthen h.2.1 (bgrown hb _), h.2.2.1.below hb, h.2.2.2⟩
/-- one tap is written anew -/
theorem TabAt.put {W : World} {p : Nat} {a : Option Addr} {cap : Nat} {xs : List Int} {w : World} {g c : Nat} {V : List Tv} {wr : World} {k : Nat} {t : Tv} (h : TabAt W p a cap xs w (.slice (some ⟨g, 0, none⟩) V.length c) V wr) (hp : p < w.heap.size) (hW : W.heap.size ≤ w.heap.size) (hk : k < V.length)
    (ht : SliceIs wr t.ad t.L) (hn : ∀ b o s, t.ad = some ⟨b, o, s⟩ → w.heap.size ≤ b ∧ ¬ g = b ∧ b < wr.heap.size) : TabAt W p a cap xs w (.slice (some ⟨g, 0, none⟩) (V.set k t).length c) (V.set k t) ((wr.setCell ⟨g, k * 2, none⟩ (.int .i64 t.f)).setCell ⟨g, k * 2 + 1, none⟩ t.val) := by
  obtain ⟨h1, h2, h3, h4⟩ := h
  have hgl := (h3.lt (g := g) rfl).1
  obtain ⟨k1, k2⟩ := h3.set hk ht hn
  refine ⟨⟨h1.choose, h1.choose_spec.keep k2 (fun q e => ?_)⟩, ?_, k1, by rw [List.length_set]; exact h4⟩
  · have := Option.some.inj e; omega
  · refine ⟨k2.os.trans h2.os, k2.tape.trans h2.tape, k2.output.trans h2.output, Nat.le_trans h2.size k2.size, fun i hi hne => ?_⟩
    rw [k2.block i (Nat.lt_of_lt_of_le hi h2.size) (fun e => by have := Option.some.inj e; omega)]
    exact h2.block i hi hne
set_option maxRecDepth 100000 in
set_option maxHeartbeats 4000000 in
theorem table_some (W : World) (p : Nat) (a : Option Addr) (cap : Nat) (xs : List Int) (n : Int) (w : World) (h : TapeSome W w p a cap xs) (hn : 1 ≤ n ∧ n ≤ 128) :
    Calls Tryd.prog 10 #[.pointer (some ⟨p, 0, none⟩), .int .i64 n] w (TablePost W p a cap xs w) := by
  have hp : p < w.heap.size := h.choose_spec.lt
  have hW : W.heap.size ≤ w.heap.size := h.choose_spec.below.size
  have hT0 := Lib.hid h
  clear h
  go_enter Tryd.func10, Tryd.ntmps10
  go_wp2_with fail
  refine (next_some W p a cap xs _ _ hT0.out (by omega) (by omega)).mono ?_; rintro e w1 ⟨m1, rfl, hm1, hT1, hg1⟩
  have hT1 := Lib.hid hT1
  have hG1 := Lib.hid hg1
  have hsz1 := Lib.hid hg1.size
  clear hT0 hg1
  obtain ⟨m, em⟩ : ∃ m, 1 + m1 = m := ⟨_, rfl⟩
  have hmb : 1 ≤ m ∧ m ≤ 6 := by omega
  go_wp2_with fail
  refine (rlinear_any n m 8 _).mono ?_; rintro e w2 ⟨v, V, rfl, hV, hO, hb⟩
  have hmk : makeC n m 8 = 0 := by
    unfold makeC
    rw [sideT_t.2 hn, sideT_t.2 (by omega), if_neg (by simp), if_neg (by omega)]
  have hVl : V.length = m.toNat := by rw [map_len hV]; unfold linT; rw [hmk, if_pos rfl, linL_len]
  have HA2 : Hid (TabAt W p a cap xs w v V w2) := Lib.hid ⟨tape_mr hT1.out hb, gthen hG1.out (bgrown hb _), hO.mono hsz1.out, by omega⟩
  have hV1 : 1 ≤ V.length := by omega
  rw [hmk]
  clear hV hO hb hT1 hG1 hsz1 hmk hVl em hm1
  go_wp2_with fail
  refine (next_some W p a cap xs _ _ HA2.out.1 (by omega) (by omega)).mono ?_; rintro e w3 ⟨m2, rfl, hm2, hT3, hg3⟩
  have HA3 := Lib.hid (HA2.out.call hp hT3 hg3)
  clear hT3 hg3 HA2
  by_cases h0 : m2 = 0
  · subst h0
    go_wp2_with fail
    refine (rbox_any n m 8 _).mono ?_; rintro e w4 ⟨v2, V2, rfl, hV2, hO2, hb⟩
    have HA4 := Lib.hid (HA3.out.below hb)
    have hl2 := Lib.hid (show V2.length ≤ 128 by rw [map_len hV2]; exact boxT_len _ _ _)
    have HO2 := Lib.hid (hO2.mono HA3.out.2.1.size)
    obtain ⟨C, eC⟩ : ∃ C, boxC n m 8 = C := ⟨_, rfl⟩
    rw [eC]
    clear eC hb hO2 hV2 HA3
    by_cases hC : C = 0
    · subst hC
      go_wp2_with fail
      go_ret
      exact ⟨_, V2, rfl, HO2.out, hl2.out, HA4.out.1, HA4.out.2.1⟩
    · have hC0 : (C == 0) = false := by simpa using hC
      go_wp2_with fail
      go_ret
      exact ⟨_, V, rfl, HA4.out.2.2.1, HA4.out.2.2.2, HA4.out.1, HA4.out.2.1⟩
  · have h01 : (m2 == 0) = false := by simpa using h0
    obtain ⟨g, c, rfl⟩ := own_taps HA3.out.2.2.1 hV1
    obtain ⟨ln, eln⟩ : ∃ ln, V.length = ln := ⟨_, rfl⟩
    have ELN := Lib.hid eln
    have hgl := Lib.hid (HA3.out.2.2.1.lt (g := g) rfl).1
    have hlnb := HA3.out.2.2.2
    rw [eln] at hlnb HA3
    rw [eln]
    have hne : ¬ g = p := by have := hgl.out; omega
    have H0 : Hid (∃ U : List Tv, U.length = ln ∧ TabAt W p a cap xs w (.slice (some ⟨g, 0, none⟩) ln c) U w3) := Lib.hid ⟨V, eln, HA3.out⟩
    clear hm2 h0 hV1 eln HA3 ELN
    go_wp2_with fail
    go_loopw [10] (fun i wr => ∃ k : Nat, k ≤ ln ∧ i = .int .i64 k ∧ Hid (∃ U : List Tv, U.length = ln ∧ TabAt W p a cap xs w (.slice (some ⟨g, 0, none⟩) ln c) U wr)) (fun i _ => ln - (intOf i).toNat)
    case atStart => exact ⟨0, by omega, rfl, H0⟩
    case round =>
      clear H0
      obtain ⟨k, hk, rfl, HI⟩ := hrel
      by_cases hlt : k < ln
      · have hkI : (k : Int) < ln := by omega
        obtain ⟨U, hU, hAU⟩ := HI.out
        have HU := Lib.hid hU
        have HAU := Lib.hid hAU
        clear HI hU hAU
        go_wp2_with fail
        refine (next_some W p a cap xs _ _ HAU.out.1 (by omega) (by omega)).mono ?_; rintro e w4 ⟨m3, rfl, hm3, hT4, hg4⟩
        have HA4 := Lib.hid (HAU.out.call hp hT4 hg4)
        clear hT4 hg4 HAU
        by_cases h3 : m3 = 0
        · subst h3
          go_wp2_with fail
          refine (next_some W p a cap xs _ _ HA4.out.1 (by omega) (by omega)).mono ?_; rintro e w5 ⟨m4, rfl, hm4, hT5, hg5⟩
          have HA5 := Lib.hid (HA4.out.call hp hT5 hg5)
          clear hT5 hg5 HA4
          obtain ⟨f, ef⟩ : ∃ f, m4 - 4 = f := ⟨_, rfl⟩
          go_wp2_with fail
          refine (next_some W p a cap xs _ _ HA5.out.1 (by omega) (by omega)).mono ?_; rintro e w6 ⟨m5, rfl, hm5, hT6, hg6⟩
          have HA6 := Lib.hid (HA5.out.call hp hT6 hg6)
          clear hT6 hg6 HA5
          go_wp2_with fail
          refine (weights_some W p a cap xs _ _ HA6.out.1 HA6.out.1.choose_spec.below.size (by omega)).mono ?_; rintro e w7 ⟨vw, L, rfl, hL, hT7, hg7, hO7, hS7⟩
          have HA7 := Lib.hid (HA6.out.call hp hT7 hg7)
          obtain ⟨gw, cw, rfl, hPW⟩ := own_row hO7 (by omega)
          have HPW := Lib.hid hPW
          have hg6 := Lib.hid (Nat.lt_of_lt_of_le (HA6.out.2.2.1.lt (g := g) rfl).2 hPW.lt.1)
          have hb6 := Lib.hid (Nat.le_trans HA6.out.2.1.size hPW.lt.1)
          have hLb : L.length ≤ 4 := by omega
          obtain ⟨ll, ell⟩ : ∃ ll, L.length = ll := ⟨_, rfl⟩
          have ELL := Lib.hid ell
          rw [ell]
          have hOw := HA7.out.2.2.1.1
          rw [HU.out] at hOw
          have cc := World.ownsRow.cellAt hOw (k * 2) (by omega)
          have cd := World.ownsRow.cellAt hOw (k * 2 + 1) (by omega)
          rw [(flatT_at U k (by rw [HU.out]; exact hlt)).1] at cc
          rw [(flatT_at U k (by rw [HU.out]; exact hlt)).2] at cd
          have f0 := World.ownsRow.frozenAt hOw (k * 2)
          have f1 := World.ownsRow.frozenAt hOw (k * 2 + 1)
          clear hOw hT7 hg7 hO7 hS7 hPW hL HA6 hm5 hm4 hLb ell
          go_wp2_with fail
          have hput := HA7.out
          rw [← HU.out] at hput
          have hpt := hput.put (k := k) (t := ⟨f, some ⟨gw, 0, none⟩, cw, L⟩) hp hW (by rw [HU.out]; exact hlt) HPW.out.isS (fun b o s e => by
            cases e
            exact ⟨hb6.out, Nat.ne_of_lt hg6.out, HPW.out.lt.2⟩)
          have HNew : Hid (∃ U' : List Tv, U'.length = ln ∧ TabAt W p a cap xs w (.slice (some ⟨g, 0, none⟩) ln c) U' ((w7.setCell ⟨g, k * 2, none⟩ (.int .i64 f)).setCell ⟨g, k * 2 + 1, none⟩ (.slice (some ⟨gw, 0, none⟩) ll cw))) := Lib.hid ⟨U.set k ⟨f, some ⟨gw, 0, none⟩, cw, L⟩, by rw [List.length_set]; exact HU.out, by
            simp only [Tv.val] at hpt
            rw [List.length_set, HU.out, ELL.out] at hpt
            exact hpt⟩
          clear hput hpt cc cd f0 f1
          go_roundw
          case rel => exact ⟨k + 1, by omega, by go_num, HNew⟩
          case measure => simp [intOf]; omega
        · have h31 : (m3 == 0) = false := by simpa using h3
          go_wp2_with fail
          go_roundw
          case rel => exact ⟨k + 1, by omega, by go_num, Lib.hid ⟨U, HU.out, HA4.out⟩⟩
          case measure => simp [intOf]; omega
      · obtain rfl : k = ln := by omega
        obtain ⟨U, hU, hAU⟩ := HI.out
        go_wp2_with fail
        go_ret
        exact ⟨_, U, rfl, hAU.2.2.1, hAU.2.2.2, hAU.1, hAU.2.1⟩
end Go.Proofs.YtjmdpebocchdhaaDoor
