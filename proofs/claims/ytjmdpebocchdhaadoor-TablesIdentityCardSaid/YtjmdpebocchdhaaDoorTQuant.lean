/- Quantized of the reference's tables as a contract: the table, or the error; the world gets new blocks at most. -/
import Derived.Test.YtjmdpebocchdhaaDoorTValid
import Derived.Test.YtjmdpebocchdhaaDoorFQuantPlain
import Derived.Deep.DeepMust
namespace Go.Proofs.YtjmdpebocchdhaaDoor
open Go.ChangeShapes Go.WideShapes Go.ChangeAt Go.RowKit
set_option linter.unusedVariables false
set_option linter.unusedSimpArgs false

/-- a list of numbers of 64 bits as it lies -/
structure Uv where
  ad : Option Addr
  cap : Nat
  L : List Int
def uv0 : Uv := ⟨none, 0, []⟩
/-- a slice of such lists, wherever it lies -/
def ListsIs (w : World) (a : Option Addr) (U : List Uv) : Prop := ∀ k, k < U.length → ∃ b off, a = some ⟨b, off, none⟩ ∧ w.cell? ⟨b, off + k, none⟩ = some (.slice (U.getD k uv0).ad (U.getD k uv0).L.length (U.getD k uv0).cap) ∧ SliceU w (U.getD k uv0).ad (U.getD k uv0).L
theorem lists_below {w w' : World} {a : Option Addr} {U : List Uv} (h : ListsIs w a U) (hb : Below w.heap.size w w') : ListsIs w' a U := by
  intro k hk
  obtain ⟨b, off, e, h1, h2⟩ := h k hk
  exact ⟨b, off, e, bkeep hb h1, isu_below h2 hb⟩
def FitsLists (U : List Uv) : Prop := ∀ k, k < U.length → FitsU (U.getD k uv0).L
/-- the first error of a pair -/
def pairE (s : Int) (p : Int × List Int) : Int := if firstT p.1 = false then 2 else quantC s p.2
def errQ (s : Int) : List (Int × List Int) → Int
  | [] => 0
  | p :: r => if pairE s p = 0 then errQ s r else pairE s p
def pairTap (s : Int) (p : Int × List Int) : Tp := ⟨p.1, quantL s p.2⟩
def pairs (fs : List Int) (K : List (List Int)) : List (Int × List Int) := fs.zip K
def qtC (fs : List Int) (K : List (List Int)) (s : Int) : Int := if fs.length ≠ K.length ∨ sideT K.length = false then 8 else errQ s (pairs fs K)
def qtT (fs : List Int) (K : List (List Int)) (s : Int) : List Tp := if qtC fs K s = 0 then (pairs fs K).map (pairTap s) else []
theorem errQ_stop {s : Int} {P : List (Int × List Int)} {k : Nat} {p : Int × List Int} {c : Int} (h : P[k]? = some p) (hc : pairE s p = c) (h0 : c ≠ 0) : errQ s (P.drop k) = c := by
  have hk : k < P.length := by
    rcases Nat.lt_or_ge k P.length with g | g
    · exact g
    · rw [List.getElem?_eq_none g] at h; cases h
  rw [List.getElem?_eq_getElem hk] at h
  rw [List.drop_eq_getElem_cons hk, Option.some.inj h]
  show (if pairE s p = 0 then _ else pairE s p) = c
  rw [hc, if_neg h0]
theorem errQ_go {s : Int} {P : List (Int × List Int)} {k : Nat} {p : Int × List Int} (h : P[k]? = some p) (hc : pairE s p = 0) : errQ s (P.drop k) = errQ s (P.drop (k + 1)) := by
  have hk : k < P.length := by
    rcases Nat.lt_or_ge k P.length with g | g
    · exact g
    · rw [List.getElem?_eq_none g] at h; cases h
  rw [List.getElem?_eq_getElem hk] at h
  rw [List.drop_eq_getElem_cons hk, Option.some.inj h]
  show (if pairE s p = 0 then errQ s _ else pairE s p) = _
  rw [if_pos hc]
theorem pair_at {fs : List Int} {U : List Uv} {k : Nat} (h1 : k < fs.length) (h2 : k < U.length) : (pairs fs (U.map Uv.L))[k]? = some (fs.getD k 0, (U.getD k uv0).L) := by
  unfold pairs
  rw [List.getElem?_zip_eq_some, List.getElem?_map, List.getD_eq_getElem?_getD, List.getD_eq_getElem?_getD, List.getElem?_eq_getElem h1, List.getElem?_eq_getElem h2]
  exact ⟨rfl, rfl⟩
theorem pairs_take {s : Int} {P : List (Int × List Int)} {k : Nat} {p : Int × List Int} (h : P[k]? = some p) : (P.take (k + 1)).map (pairTap s) = (P.take k).map (pairTap s) ++ [pairTap s p] := by
  have hk : k < P.length := by
    rcases Nat.lt_or_ge k P.length with g | g
    · exact g
    · rw [List.getElem?_eq_none g] at h; cases h
  rw [List.getElem?_eq_getElem hk] at h
  rw [List.take_succ_eq_append_getElem hk, List.map_append, Option.some.inj h]; rfl
theorem rquant_l {s c : Int} {L K : List Int} {l : Nat} (hL : quantL s L = K) (hc : quantC s L = c) (e : L.length = l) (a : Option Addr) (cap : Nat) (w : World) (hs : SliceU w a L) (hf : FitsU L) : Calls Tryd.prog 37 #[.slice a l cap, .int .i64 s] w (QuantPost K c w) := by
  subst e
  have := rquant_any s L a cap w hs hf
  rw [hL, hc] at this; exact this
/-- where a slice of numbers that is not empty lies -/
theorem is_lt {w : World} {a : Option Addr} {L : List Int} (h : SliceIs w a L) (hl : 0 < L.length) {b o : Nat} {s} (e : a = some ⟨b, o, s⟩) : b < w.heap.size := by
  obtain ⟨b', o', e', hc⟩ := h 0 hl
  rw [e'] at e
  cases e
  exact World.block_lt_of_cell? _ _ hc
theorem quant_pos {s : Int} {L : List Int} (h : quantC s L = 0) : 0 < (quantL s L).length := by
  unfold quantL
  rw [if_pos h, List.length_set, outs_len]
  unfold quantC at h
  split at h
  · omega
  · split at h
    · omega
    · omega
set_option maxRecDepth 100000 in
set_option maxHeartbeats 4000000 in
theorem rtquant_in (fs : List Int) (U : List Uv) (s : Int) (a b : Option Addr) (cap cap' : Nat) (w : World) (hfs : SliceIs w a fs) (hU : ListsIs w b U) (hF : FitsLists U) (hlen : fs.length = U.length) (hside : sideT U.length = true) :
    Calls Tryd.prog 24 #[.slice a fs.length cap, .slice b U.length cap', .int .i64 s] w (TabPost (if errQ s (pairs fs (U.map Uv.L)) = 0 then (pairs fs (U.map Uv.L)).map (pairTap s) else []) (errQ s (pairs fs (U.map Uv.L))) w) := by
  have hb := sideT_t.1 hside
  obtain ⟨P, eP⟩ : ∃ P, pairs fs (U.map Uv.L) = P := ⟨_, rfl⟩
  obtain ⟨n, en⟩ : ∃ n, U.length = n := ⟨_, rfl⟩
  have hat := Lib.hid (fun k (hk : k < n) => (show P[k]? = some (fs.getD k 0, (U.getD k uv0).L) by rw [← eP]; exact pair_at (by omega) (by omega)))
  have hPl : P.length = n := by rw [← eP]; unfold pairs; rw [List.length_zip, List.length_map]; omega
  rw [eP, hlen]
  rw [en] at hb hside ⊢
  have HFS := Lib.hid hfs
  have HU := Lib.hid hU
  have HF := Lib.hid hF
  have HS := Lib.hid hside
  have EN := Lib.hid en
  have EF := Lib.hid (show fs.length = n by omega)
  have EPL := Lib.hid hPl
  obtain ⟨i0, hi, hi0, hi1, hi2⟩ := info_parts infoTap
  have hi' := Lib.hid hi
  have hi0' := Lib.hid hi0
  have hi1' := Lib.hid hi1
  have hi2' := Lib.hid hi2
  have H0 : Hid (TabIn w ((P.take 0).map (pairTap s)) (.slice none 0 0) [] w) := Lib.hid ⟨by simp, OwnT.nil _ _, bref _⟩
  obtain ⟨T, eT⟩ : ∃ T, (if errQ s P = 0 then P.map (pairTap s) else []) = T := ⟨_, rfl⟩
  have ET := Lib.hid eT
  rw [eT]
  clear hi hi0 hi1 hi2 hfs hU hF hlen hside en eP hPl eT
  go_enter Tryd.func24, Tryd.ntmps24
  go_wp2_with fail
  refine (rside_is HS.out _).mono ?_; rintro e w1 ⟨rfl, rfl⟩
  go_wp2_with fail
  go_loopw [8, 9] (fun v i wr => ∃ (k : Nat) (V : List Tv), k ≤ n ∧ i = .int .i64 k ∧ V.length = k ∧ Hid (errQ s P = errQ s (P.drop k)) ∧ Hid (TabIn w ((P.take k).map (pairTap s)) v V wr)) (fun _ i _ => n - (intOf i).toNat)
  case atStart => exact ⟨0, [], by omega, rfl, rfl, Lib.hid (by simp), H0⟩
  case round =>
    clear H0
    obtain ⟨k, V, hk, rfl, rfl, HE, HI⟩ := hrel
    by_cases hlt : V.length < n
    · have hkI : (V.length : Int) < n := by omega
      obtain ⟨p, po, rfl, hc1⟩ := is_below HFS.out HI.out.2.2 V.length (by rw [EF.out]; exact hlt)
      obtain ⟨q, qo, rfl, hc2, hu⟩ := lists_below HU.out HI.out.2.2 V.length (by rw [EN.out]; exact hlt)
      have hpa := hat.out V.length hlt
      have hfit := HF.out V.length (by rw [EN.out]; exact hlt)
      obtain ⟨f, ef⟩ : ∃ f, fs.getD V.length 0 = f := ⟨_, rfl⟩
      obtain ⟨u, eu⟩ : ∃ u, U.getD V.length uv0 = u := ⟨_, rfl⟩
      rw [ef] at hc1 hpa
      rw [eu] at hc2 hu hpa hfit
      obtain ⟨ad, uc, L⟩ := u
      dsimp only at hc2 hu hpa hfit
      obtain ⟨l, el⟩ : ∃ l, L.length = l := ⟨_, rfl⟩
      rw [el] at hc2
      have EL := Lib.hid el
      have HUL := Lib.hid hu
      have HFit := Lib.hid hfit
      have HPA := Lib.hid hpa
      clear ef eu el hu hfit hpa
      rcases hf : firstT f with _ | _
      · have H1 := Lib.hid hf
        have HR := Lib.hid (HE.out.trans (errQ_stop HPA.out (show pairE s (f, L) = 2 by unfold pairE; rw [hf]; rfl) (by decide)))
        have HBB := Lib.hid HI.out.2.2
        clear hf HE HI
        go_wp2_with fail
        refine (rfirst_is H1.out _).mono ?_; rintro e w2 ⟨rfl, rfl⟩
        go_wp2_with fail
        go_returns
        rw [HR.out]
        exact tab_nil (by rw [← ET.out, HR.out]; simp) HBB.out
      · have H1 := Lib.hid hf
        have hpe : pairE s (f, L) = quantC s L := by unfold pairE; rw [hf]; rfl
        obtain ⟨C, eC⟩ : ∃ C, quantC s L = C := ⟨_, rfl⟩
        obtain ⟨K, eK⟩ : ∃ K, quantL s L = K := ⟨_, rfl⟩
        have EC := Lib.hid eC
        have EK := Lib.hid eK
        rw [eC] at hpe
        by_cases hC : C = 0
        · subst hC
          have HE2 := Lib.hid (HE.out.trans (errQ_go HPA.out hpe))
          have HTK := Lib.hid (show (P.take (V.length + 1)).map (pairTap s) = (P.take V.length).map (pairTap s) ++ [⟨f, K⟩] by rw [pairs_take HPA.out]; unfold pairTap; rw [eK])
          have HKp := Lib.hid (show 0 < K.length by rw [← eK]; exact quant_pos eC)
          have L1 := Lib.hid (show V.length + 1 ≤ maxLen by unfold maxLen; omega)
          have L2 := Lib.hid (show (V.length + 1) * 32 ≤ 140737488355328 by omega)
          clear hf hpe eC eK HE
          go_wp2_with fail
          refine (rfirst_is H1.out _).mono ?_; rintro e w2 ⟨rfl, rfl⟩
          go_wp2_with fail
          refine (rquant_l EK.out EC.out EL.out _ _ _ HUL.out HFit.out).mono ?_; rintro e w3 ⟨ka, kc, rfl, hs3, hb3, hfar⟩
          replace hc1 := bkeep hb3 hc1
          have HI3 := Lib.hid (HI.out.below hb3)
          have HB3 := Lib.hid hb3
          have HS3 := Lib.hid hs3
          have HFar := Lib.hid hfar
          have L3 : Hid (∀ o : Obj, w.heap.size ≤ (w3.alloc o).heap.size) := Lib.hid (fun o => by have := HI3.out.2.2.size; simp; omega)
          obtain ⟨kl, ekl⟩ : ∃ kl, K.length = kl := ⟨_, rfl⟩
          have EKL := Lib.hid ekl
          rw [ekl]
          clear hb3 hs3 hfar ekl hc2
          go_wp2_with (at_builtin; go_must (refine wpList_append_lies _ rfl _ _ _ rfl w.heap.size 31 i0 (.agg #[.int .i64 0, .slice none 0 0]) 2 32 Tryd.underlying23 hi'.out hi0'.out hi1'.out hi2'.out rfl (by decide) u8 V.length (flatT V) rfl (HI3.out.2.1.1.alloc _) ⟨w3.heap.size, 0, none⟩ 1 1 [.int .i64 f, .slice ka kl kc] rfl rfl (World.news_of_block (heap_alloc_new _ _)) (by intro u hu; simp at hu; rcases hu with rfl | rfl <;> rfl) (by decide) L1.out L2.out (L3.out _) (w3.heap.size + 1) (by simp) ?_); intro g gc wB hown hgrow hat2 hlB)
          have HF2 := Lib.hid (HI.out.app (t := ⟨f, ka, kc, K⟩) (bthen HB3.out (balloc (bref w3) (.cells #[.int .i64 f, .slice ka kl kc] 31))) (by rw [flatT_one]; simp only [Tv.val]; rw [EKL.out]; exact hown) hgrow hat2 rfl (by simp) (is_below HS3.out (balloc (bref _) _)) (fun b o s e => ⟨HFar.out b o s e, by
            have := is_lt HS3.out HKp.out e; simp; omega⟩))
          go_roundw
          case rel => exact ⟨V.length + 1, V ++ [⟨f, ka, kc, K⟩], by omega, by go_num, by simp, HE2, by rw [HTK.out]; exact HF2⟩
          case measure => simp [intOf]; omega
        · have hc0 : (C == 0) = false := by simpa using hC
          have HR := Lib.hid (HE.out.trans (errQ_stop HPA.out hpe hC))
          have HI2 := Lib.hid HI.out
          clear hf hpe eC eK HE
          go_wp2_with fail
          refine (rfirst_is H1.out _).mono ?_; rintro e w2 ⟨rfl, rfl⟩
          go_wp2_with fail
          refine (rquant_l EK.out EC.out EL.out _ _ _ HUL.out HFit.out).mono ?_; rintro e w3 ⟨ka, kc, rfl, hs3, hb3, hfar⟩
          have HBB := Lib.hid (bthen HI2.out.2.2 hb3)
          clear hs3 hb3 hfar
          go_wp2_with fail
          go_returns
          rw [HR.out]
          exact tab_nil (by rw [← ET.out, HR.out, if_neg hC]) HBB.out
    · obtain rfl : V.length = n := by omega
      have HR := Lib.hid (HE.out.trans (show errQ s (P.drop V.length) = 0 by rw [List.drop_eq_nil_of_le (by rw [EPL.out]; exact Nat.le_refl _)]; rfl))
      go_wp2_with fail
      go_returns
      rw [HR.out]
      refine ⟨_, V, rfl, ?_, HI.out.2⟩
      rw [HI.out.1, ← EPL.out, List.take_length, ← ET.out, HR.out]; simp
theorem rtquant_any (fs : List Int) (U : List Uv) (s : Int) (a b : Option Addr) (cap cap' : Nat) (w : World) (hfs : SliceIs w a fs) (hU : ListsIs w b U) (hF : FitsLists U) :
    Calls Tryd.prog 24 #[.slice a fs.length cap, .slice b U.length cap', .int .i64 s] w (TabPost (qtT fs (U.map Uv.L) s) (qtC fs (U.map Uv.L) s) w) := by
  have el : (U.map Uv.L).length = U.length := by simp
  by_cases h1 : fs.length = U.length
  · rcases h2 : sideT U.length with _ | _
    · have hc : qtC fs (U.map Uv.L) s = 8 := by unfold qtC; rw [el, if_pos (.inr h2)]
      have hT : qtT fs (U.map Uv.L) s = [] := by unfold qtT; rw [hc]; rfl
      rw [hc, hT, h1]
      have H2 := Lib.hid h2
      clear hc hT h1 h2 el hfs hU
      go_enter Tryd.func24, Tryd.ntmps24
      go_wp2_with fail
      refine (rside_is H2.out _).mono ?_; rintro e w2 ⟨rfl, rfl⟩
      go_wp2_with fail
      go_returns
      exact tab_nil rfl (bref _)
    · have hc : qtC fs (U.map Uv.L) s = errQ s (pairs fs (U.map Uv.L)) := by unfold qtC; rw [el, h2, if_neg (by simp [h1])]
      have hT : qtT fs (U.map Uv.L) s = if errQ s (pairs fs (U.map Uv.L)) = 0 then (pairs fs (U.map Uv.L)).map (pairTap s) else [] := by unfold qtT; rw [hc]
      rw [hc, hT]
      exact rtquant_in fs U s a b cap cap' w hfs hU hF h1 h2
  · have hc : qtC fs (U.map Uv.L) s = 8 := by unfold qtC; rw [el, if_pos (.inl h1)]
    have hT : qtT fs (U.map Uv.L) s = [] := by unfold qtT; rw [hc]; rfl
    rw [hc, hT]
    obtain ⟨x, ex⟩ : ∃ x, fs.length = x := ⟨_, rfl⟩
    obtain ⟨y, ey⟩ : ∃ y, U.length = y := ⟨_, rfl⟩
    rw [ex, ey] at h1 ⊢
    have h1I : ((x : Int) == y) = false := by simp; omega
    have h1J : ¬ (x : Int) = y := by omega
    clear hc hT h1 el hfs hU ex ey
    go_enter Tryd.func24, Tryd.ntmps24
    go_wp2_with fail
    go_returns
    exact tab_nil rfl (bref _)
end Go.Proofs.YtjmdpebocchdhaaDoor
