/- Quantized weights as plain lists: the scaled values, the first greatest of them, and the correction. No program is named. Quantize of the reference as a contract: the list and the code that it returns; the world gets new blocks at most. -/
import Derived.Test.YtjmdpebocchdhaaDoorFPlain
import Derived.Test.YtjmdpebocchdhaaDoorPRow
import Derived.Deep.DeepCutAuto
namespace Go.Proofs.YtjmdpebocchdhaaDoor
set_option linter.unusedVariables false
set_option linter.unusedSimpArgs false

/-- the first error of Scale -/
def errTo (s : Int) : List Int → Int
  | [] => 0
  | x :: r => if scaleC x s = 0 then errTo s r else scaleC x s
def outs (s : Int) (L : List Int) : List Int := L.map (fun x => scaleN x s)
/-- the place of the first greatest of the first k -/
def bestAt (O : List Int) : Nat → Nat
  | 0 => 0
  | k + 1 => if O.getD (bestAt O k) 0 < O.getD k 0 then k else bestAt O k
def corr (s : Int) (L : List Int) : Int := 2 ^ s.toNat - (outs s L).sum
def topN (s : Int) (L : List Int) : Int := (outs s L).getD (bestAt (outs s L) L.length) 0 + corr s L
def quantC (s : Int) (L : List Int) : Int :=
  if s < 0 ∨ 24 < s then 2 else if L.length = 0 ∨ 8 < L.length then 5 else if errTo s L ≠ 0 then errTo s L else
  if (L.length : Int) < corr s L ∨ corr s L < -(L.length : Int) then 10 else if 32767 < topN s L ∨ topN s L < -32767 then 3 else 0
def quantL (s : Int) (L : List Int) : List Int := if quantC s L = 0 then (outs s L).set (bestAt (outs s L) L.length) (topN s L) else []

theorem outs_len (s : Int) (L : List Int) : (outs s L).length = L.length := by simp [outs]
theorem outs_at (s : Int) (L : List Int) {k : Nat} (hk : k < L.length) : (outs s L).getD k 0 = scaleN (L.getD k 0) s := by
  unfold outs
  simp [List.getD_eq_getElem?_getD, hk]
theorem outs_bd (s : Int) (L : List Int) (k : Nat) : -32767 ≤ (outs s L).getD k 0 ∧ (outs s L).getD k 0 ≤ 32767 := by
  by_cases h : k < L.length
  · rw [outs_at s L h]; exact scale_bd _ _
  · have : (outs s L).getD k 0 = 0 := by rw [List.getD_eq_getElem?_getD, List.getElem?_eq_none (by rw [outs_len]; omega)]; rfl
    omega
theorem best_lt (O : List Int) : ∀ k, bestAt O k ≤ k - 1
  | 0 => by simp [bestAt]
  | k + 1 => by
    unfold bestAt
    split
    · omega
    · have := best_lt O k; omega
theorem sum_take {O : List Int} {k : Nat} (hk : k < O.length) : (O.take (k + 1)).sum = (O.take k).sum + O.getD k 0 := by
  rw [List.take_succ_eq_append_getElem hk, List.sum_append, List.getD_eq_getElem?_getD, List.getElem?_eq_getElem hk]; simp
theorem sum_bd (s : Int) (L : List Int) : ∀ k, k ≤ L.length → -(32767 * (k : Int)) ≤ ((outs s L).take k).sum ∧ ((outs s L).take k).sum ≤ 32767 * k := by
  intro k
  induction k with
  | zero => intro _; simp
  | succ k ih =>
    intro hk
    have h1 := ih (by omega)
    have h2 := outs_bd s L k
    rw [sum_take (by rw [outs_len]; omega)]
    omega
theorem err_step {s : Int} {L : List Int} {k : Nat} (hk : k < L.length) (h0 : scaleC (L.getD k 0) s = 0) : errTo s (L.drop k) = errTo s (L.drop (k + 1)) := by
  rw [List.getD_eq_getElem?_getD, List.getElem?_eq_getElem hk] at h0
  rw [List.drop_eq_getElem_cons hk]
  exact if_pos h0
theorem err_stop {s : Int} {L : List Int} {k : Nat} (hk : k < L.length) (h0 : scaleC (L.getD k 0) s ≠ 0) : errTo s (L.drop k) = scaleC (L.getD k 0) s := by
  have e : L.getD k 0 = L[k] := by rw [List.getD_eq_getElem?_getD, List.getElem?_eq_getElem hk]; rfl
  rw [e] at h0 ⊢
  rw [List.drop_eq_getElem_cons hk]
  exact if_neg h0
theorem pow_bd {s : Int} (h : 0 ≤ s ∧ s ≤ 24) : (1 : Int) ≤ 2 ^ s.toNat ∧ (2 : Int) ^ s.toNat ≤ 16777216 := by
  have h1 : 2 ^ s.toNat ≤ 2 ^ 24 := Nat.pow_le_pow_right (by decide) (by omega)
  have h2 : (2 : Nat) ^ 24 = 16777216 := by decide
  have h3 := Nat.two_pow_pos s.toNat
  have c : ((2 : Int) ^ s.toNat) = ((2 ^ s.toNat : Nat) : Int) := by simp
  rw [c]; omega
/-- what has been written of the list so far -/
def partL (O : List Int) (k : Nat) : List Int := O.take k ++ List.replicate (O.length - k) 0
theorem partL_len {O : List Int} {k : Nat} (hk : k ≤ O.length) : (partL O k).length = O.length := by simp [partL]; omega
theorem partL_zero (O : List Int) : partL O 0 = List.replicate O.length 0 := by simp [partL]
theorem partL_end (O : List Int) : partL O O.length = O := by simp [partL]
theorem partL_set {O : List Int} {k : Nat} (hk : k < O.length) : (partL O k).set k (O.getD k 0) = partL O (k + 1) := by
  have e : List.replicate (O.length - k) (0 : Int) = 0 :: List.replicate (O.length - (k + 1)) 0 := by
    rw [show O.length - k = (O.length - (k + 1)) + 1 by omega]; rfl
  unfold partL
  rw [e, List.set_append_right _ _ (by simp; omega), List.take_succ_eq_append_getElem hk, List.append_assoc]
  congr 1
  rw [show k - (List.take k O).length = 0 by simp; omega, List.getD_eq_getElem?_getD, List.getElem?_eq_getElem hk]
  rfl
theorem partL_at {O : List Int} {j k : Nat} (hj : j < k) (hk : k ≤ O.length) : (partL O k).getD j 0 = O.getD j 0 := by
  unfold partL
  rw [List.getD_eq_getElem?_getD, List.getD_eq_getElem?_getD, List.getElem?_append_left (by simp; omega), List.getElem?_take_of_lt hj]
open Go.ChangeShapes Go.WideShapes Go.ChangeAt Go.RowKit
set_option linter.unusedVariables false
set_option linter.unusedSimpArgs false

theorem wrap_small {P : Int} (h0 : 1 ≤ P) (h1 : P ≤ 16777216) : wrap64 P = P := by unfold wrap64; omega
/-- numbers of 64 bits -/
def FitsU (L : List Int) : Prop := ∀ k, k < L.length → In64u (L.getD k 0)
/-- a slice of numbers of 64 bits, wherever they lie -/
def SliceU (w : World) (a : Option Addr) (L : List Int) : Prop := ∀ k, k < L.length → ∃ b off, a = some ⟨b, off, none⟩ ∧ w.cell? ⟨b, off + k, none⟩ = some (.int .u64 (L.getD k 0))
theorem isu_below {W wr : World} {a : Option Addr} {L : List Int} (h : SliceU W a L) (hb : Below W.heap.size W wr) : SliceU wr a L := by
  intro k hk
  obtain ⟨b, off, rfl, hc⟩ := h k hk
  exact ⟨b, off, rfl, by rw [hb.cell (World.block_lt_of_cell? _ _ hc)]; exact hc⟩
/-- a list and a code came back, and only new blocks came -/
def QuantPost (L : List Int) (c : Int) (w : World) (e : Ending) (w' : World) : Prop := ∃ a cap, e = .returned (.tuple #[.slice a L.length cap, .int .i64 c]) ∧ SliceIs w' a L ∧ Below w.heap.size w w' ∧ ∀ b o s, a = some ⟨b, o, s⟩ → w.heap.size ≤ b
theorem quant_nil {L : List Int} {c : Int} {w w' : World} (s : Int) (K : List Int) (hL : quantL s K = L) (hc : quantC s K = c) (h0 : c ≠ 0) (hb : Below w.heap.size w w') : QuantPost (quantL s K) (quantC s K) w (.returned (.tuple #[.slice none 0 0, .int .i64 c])) w' := by
  have e : quantL s K = [] := by unfold quantL; rw [hc, if_neg h0]
  rw [e, hc]
  exact ⟨none, 0, rfl, fun k hk => by simp at hk, hb, fun b o s e => by cases e⟩
theorem quant_range {s : Int} {L : List Int} (h : s < 0 ∨ 24 < s) : quantC s L = 2 := by unfold quantC; rw [if_pos h]
theorem quant_len {s : Int} {L : List Int} (h : 0 ≤ s ∧ s ≤ 24) (hl : L.length = 0 ∨ 8 < L.length) : quantC s L = 5 := by unfold quantC; rw [if_neg (by omega), if_pos hl]
theorem quant_err {s : Int} {L : List Int} (h : 0 ≤ s ∧ s ≤ 24) (hl : 1 ≤ L.length ∧ L.length ≤ 8) (he : errTo s L ≠ 0) : quantC s L = errTo s L := by unfold quantC; rw [if_neg (by omega), if_neg (by omega), if_pos he]
theorem quant_weight {s : Int} {L : List Int} (h : 0 ≤ s ∧ s ≤ 24) (hl : 1 ≤ L.length ∧ L.length ≤ 8) (he : errTo s L = 0) (hw : (L.length : Int) < corr s L ∨ corr s L < -(L.length : Int)) : quantC s L = 10 := by
  unfold quantC; rw [if_neg (by omega), if_neg (by omega), if_neg (by simpa using he), if_pos hw]
theorem quant_over {s : Int} {L : List Int} (h : 0 ≤ s ∧ s ≤ 24) (hl : 1 ≤ L.length ∧ L.length ≤ 8) (he : errTo s L = 0) (hw : -(L.length : Int) ≤ corr s L ∧ corr s L ≤ (L.length : Int)) (ho : 32767 < topN s L ∨ topN s L < -32767) : quantC s L = 3 := by
  unfold quantC; rw [if_neg (by omega), if_neg (by omega), if_neg (by simpa using he), if_neg (by omega), if_pos ho]
theorem quant_ok {s : Int} {L : List Int} (h : 0 ≤ s ∧ s ≤ 24) (hl : 1 ≤ L.length ∧ L.length ≤ 8) (he : errTo s L = 0) (hw : -(L.length : Int) ≤ corr s L ∧ corr s L ≤ (L.length : Int)) (ho : -32767 ≤ topN s L ∧ topN s L ≤ 32767) : quantC s L = 0 ∧ quantL s L = (outs s L).set (bestAt (outs s L) L.length) (topN s L) := by
  have e : quantC s L = 0 := by unfold quantC; rw [if_neg (by omega), if_neg (by omega), if_neg (by simpa using he), if_neg (by omega), if_neg (by omega)]
  exact ⟨e, by unfold quantL; rw [if_pos e]⟩
theorem rquant_out (s : Int) (L : List Int) (a : Option Addr) (cap : Nat) (w : World) (h : s < 0 ∨ 24 < s) : Calls Tryd.prog 37 #[.slice a L.length cap, .int .i64 s] w (QuantPost (quantL s L) (quantC s L) w) := by
  have HC := Lib.hid (quant_range (L := L) h)
  go_enter Tryd.func37, Tryd.ntmps37
  rcases h with h | h
  all_goals
    go_wp2_with fail
    go_returns
    exact quant_nil s L rfl HC.out (by omega) (bref _)
theorem rquant_len (s : Int) (L : List Int) (a : Option Addr) (cap : Nat) (w : World) (h : 0 ≤ s ∧ s ≤ 24) (hl : L.length = 0 ∨ 8 < L.length) : Calls Tryd.prog 37 #[.slice a L.length cap, .int .i64 s] w (QuantPost (quantL s L) (quantC s L) w) := by
  have HC := Lib.hid (quant_len (L := L) h hl)
  obtain ⟨n, en⟩ : ∃ n, L.length = n := ⟨_, rfl⟩
  rw [en] at hl ⊢
  clear en
  go_enter Tryd.func37, Tryd.ntmps37
  rcases hl with rfl | hl
  all_goals
    go_wp2_with fail
    go_returns
    exact quant_nil s L rfl HC.out (by omega) (bref _)
theorem q_store {w : World} {s : Int} {L : List Int} {g cap : Nat} {a : Option Addr} {k : Nat} {wr : World} {N : Int} (h : Below w.heap.size w wr ∧ PixAt w.heap.size wr g cap (partL (outs s L) k) ∧ SliceU wr a L ∧ errTo s L = errTo s (L.drop k)) (hk : k < L.length) (ha : SliceU w a L) (hN : scaleN (L.getD k 0) s = N) (hc : scaleC (L.getD k 0) s = 0) :
    Below w.heap.size w (wr.setCell ⟨g, k, none⟩ (.int .i64 N)) ∧ PixAt w.heap.size (wr.setCell ⟨g, k, none⟩ (.int .i64 N)) g cap (partL (outs s L) (k + 1)) ∧ SliceU (wr.setCell ⟨g, k, none⟩ (.int .i64 N)) a L ∧ errTo s L = errTo s (L.drop (k + 1)) := by
  obtain ⟨h1, h2, h3, h4⟩ := h
  have hg := h2.lt.1
  have hB := h1.setCell (p := ⟨g, k, none⟩) hg (.int .i64 N)
  have hs := (h2.store k N).1
  have e : (partL (outs s L) k).set k N = partL (outs s L) (k + 1) := by
    rw [← partL_set (by rw [outs_len]; exact hk), outs_at s L hk, hN]
  rw [e] at hs
  exact ⟨hB, hs, isu_below ha hB, by rw [h4, err_step hk hc]⟩
/-- where the loop over the values stands -/
def QIn (w : World) (s : Int) (L : List Int) (g cap : Nat) (a : Option Addr) (k : Nat) (wr : World) : Prop :=
  Below w.heap.size w wr ∧ PixAt w.heap.size wr g cap (partL (outs s L) k) ∧ SliceU wr a L ∧ errTo s L = errTo s (L.drop k)
set_option maxRecDepth 100000 in
set_option maxHeartbeats 4000000 in
theorem rquant_in (s : Int) (L : List Int) (a : Option Addr) (cap : Nat) (w : World) (hs : SliceU w a L) (hf : FitsU L) (h : 0 ≤ s ∧ s ≤ 24) (hl : 1 ≤ L.length ∧ L.length ≤ 8) : Calls Tryd.prog 37 #[.slice a L.length cap, .int .i64 s] w (QuantPost (quantL s L) (quantC s L) w) := by
  obtain ⟨n, en⟩ : ∃ n, L.length = n := ⟨_, rfl⟩
  have hn : 1 ≤ n ∧ n ≤ 8 := by omega
  obtain ⟨A, hA, hmk⟩ := run_zeros n (by omega)
  have hA' := Lib.hid hA
  have En := Lib.hid en
  have H := Lib.hid h
  have HL := Lib.hid hl
  have HF := Lib.hid hf
  have HA := Lib.hid hs
  have H0 : Hid (QIn w s L w.heap.size n a 0 (w.alloc (.cells A 3))) := Lib.hid (by
    refine ⟨balloc (bref _) _, ?_, isu_below hs (balloc (bref _) _), by simp⟩
    have hr := row_new w (List.replicate n 0)
    rw [← hA] at hr
    have := RowIs.pix (base := w.heap.size) hr (Nat.le_refl _) (by simp [maxLen]; omega)
    rw [partL_zero, outs_len, en]
    simpa using this)
  have hnI : (1 : Int) ≤ n ∧ (n : Int) ≤ 8 := by omega
  have hn0 : ((n : Int) == 0) = false := by simp; omega
  obtain ⟨h0, h1⟩ := h
  rw [en]
  clear hA en hs hf hl
  go_enter Tryd.func37, Tryd.ntmps37
  go_wp2_with fail
  go_loopw [7, 8, 9] (fun t b i wr => ∃ (k q : Nat) (T : Int), k ≤ n ∧ i = .int .i64 k ∧ t = .int .i64 T ∧ b = .int .i64 q ∧ q ≤ k - 1 ∧ (-(32767 * (k : Int)) ≤ T ∧ T ≤ 32767 * k) ∧ Hid (T = ((outs s L).take k).sum) ∧ Hid (q = bestAt (outs s L) k) ∧ Hid (QIn w s L w.heap.size n a k wr)) (fun _ _ i _ => n - (intOf i).toNat)
  case atStart => exact ⟨0, 0, 0, by omega, rfl, rfl, rfl, by omega, by omega, Lib.hid (by simp), Lib.hid rfl, H0⟩
  case round =>
    clear H0
    obtain ⟨k, q, T, hk, rfl, rfl, rfl, hq, bT, HT, HQ, HI⟩ := hrel
    by_cases hlt : k < n
    · have hkL : k < L.length := by rw [En.out]; exact hlt
      obtain ⟨b, off, rfl, hcell⟩ := HI.out.2.2.1 k hkL
      obtain ⟨x, ex⟩ : ∃ x, L.getD k 0 = x := ⟨_, rfl⟩
      rw [ex] at hcell
      have HX := Lib.hid (show In64u x by rw [← ex]; exact HF.out k hkL)
      have Ex := Lib.hid ex
      obtain ⟨N, eN⟩ : ∃ N, scaleN x s = N := ⟨_, rfl⟩
      obtain ⟨c, ec⟩ : ∃ c, scaleC x s = c := ⟨_, rfl⟩
      have bN := scale_bd x s
      rw [eN] at bN
      have EN := Lib.hid eN
      have EC := Lib.hid ec
      have hkI : (k : Int) < n := by omega
      clear ex eN ec hkL
      by_cases hc : c = 0
      · subst hc
        have hpl : (partL (outs s L) k).length = n := by rw [partL_len (by rw [outs_len, En.out]; omega), outs_len, En.out]
        have kc := HI.out.2.1.cell (k := k) (by rw [hpl]; exact hlt)
        have kf := HI.out.2.1.frozen k
        obtain ⟨V0, eV0⟩ : ∃ V0, (partL (outs s L) k).getD k 0 = V0 := ⟨_, rfl⟩
        rw [eV0] at kc
        have hkI0 : (0 : Int) ≤ k := by omega
        have HI2 := Lib.hid (q_store HI.out (by rw [En.out]; exact hlt) HA.out (by rw [Ex.out, EN.out]) (by rw [Ex.out, EC.out]))
        clear eV0 hpl HI
        go_wp2_with fail
        refine (rscale_is HX.out EN.out EC.out _).mono ?_; rintro e w1 ⟨rfl, rfl⟩
        go_upto_region 14 with fail
        obtain ⟨wz, ewz⟩ : ∃ wz, wr.setCell ⟨w.heap.size, k, none⟩ (.int .i64 N) = wz := ⟨_, rfl⟩
        rw [ewz] at HI2
        simp only [ewz]
        clear ewz kc kf hcell
        have hqk : q < k + 1 := by omega
        have hpl : (partL (outs s L) (k + 1)).length = n := by rw [partL_len (by rw [outs_len, En.out]; omega), outs_len, En.out]
        have kc := HI2.out.2.1.cell (k := q) (by rw [hpl]; omega)
        rw [partL_at hqk (by rw [outs_len, En.out]; omega)] at kc
        obtain ⟨V, eV⟩ : ∃ V, (outs s L).getD q 0 = V := ⟨_, rfl⟩
        rw [eV] at kc
        have hNk : (outs s L).getD k 0 = N := by rw [outs_at s L (by rw [En.out]; exact hlt), Ex.out, EN.out]
        have HB2 : Hid (bestAt (outs s L) (k + 1) = if V < N then k else q) := Lib.hid (by
          show (if (outs s L).getD (bestAt (outs s L) k) 0 < (outs s L).getD k 0 then k else bestAt (outs s L) k) = _
          rw [← HQ.out, hNk, eV])
        have HT2 : Hid (T + N = ((outs s L).take (k + 1)).sum) := Lib.hid (by rw [sum_take (by rw [outs_len, En.out]; exact hlt), ← HT.out, hNk])
        have hqI : (q : Int) < n := by omega
        have hqI0 : (0 : Int) ≤ q := by omega
        clear eV hNk hpl HT HQ
        by_cases hv : V < N
        · have HQ2 : Hid (k = bestAt (outs s L) (k + 1)) := Lib.hid (by rw [HB2.out, if_pos hv])
          go_wp2_with fail
          go_roundw
          case rel => exact ⟨k + 1, k, T + N, by omega, by go_num, rfl, rfl, by omega, by omega, HT2, HQ2, HI2⟩
          case measure => simp [intOf]; omega
        · have HQ2 : Hid (q = bestAt (outs s L) (k + 1)) := Lib.hid (by rw [HB2.out, if_neg hv])
          go_wp2_with fail
          go_roundw
          case rel => exact ⟨k + 1, q, T + N, by omega, by go_num, rfl, rfl, by omega, by omega, HT2, HQ2, HI2⟩
          case measure => simp [intOf]; omega
      · have HE : Hid (quantC s L = c) := Lib.hid (by
          have e1 : errTo s L = c := by rw [HI.out.2.2.2, err_stop (by rw [En.out]; exact hlt) (by rw [Ex.out, EC.out]; exact hc), Ex.out, EC.out]
          rw [quant_err H.out HL.out (by rw [e1]; exact hc), e1])
        have hc0 : (c == 0) = false := by simpa using hc
        have hB := Lib.hid HI.out.1
        clear HI HT HQ
        go_wp2_with fail
        refine (rscale_is HX.out EN.out EC.out _).mono ?_; rintro e w1 ⟨rfl, rfl⟩
        go_wp2_with fail
        go_returns
        exact quant_nil s L rfl HE.out hc hB.out
    · obtain rfl : k = n := by omega
      have hOl : (outs s L).length = k := by rw [outs_len, En.out]
      have hpE : partL (outs s L) k = outs s L := by rw [← hOl]; exact partL_end _
      have hHE := HI.out
      unfold QIn at hHE
      rw [hpE] at hHE
      have he0 : errTo s L = 0 := by rw [hHE.2.2.2, List.drop_eq_nil_of_le (by rw [En.out]; omega)]; rfl
      have HP := Lib.hid hHE.2.1
      have HB := Lib.hid hHE.1
      have hqk : q < k := by omega
      have kc := HP.out.cell (k := q) (by rw [hOl]; exact hqk)
      have kf := HP.out.frozen q
      have bV := outs_bd s L q
      obtain ⟨V, eV⟩ : ∃ V, (outs s L).getD q 0 = V := ⟨_, rfl⟩
      rw [eV] at kc bV
      have hS : (outs s L).sum = T := by rw [HT.out, ← hOl, List.take_length]
      have bP := pow_bd H.out
      obtain ⟨P, eP⟩ : ∃ P : Int, 2 ^ s.toNat = P := ⟨_, rfl⟩
      rw [eP] at bP
      have hC : corr s L = P - T := by unfold corr; rw [eP, hS]
      have hM : topN s L = V + (P - T) := by unfold topN; rw [hC, En.out, ← HQ.out, eV]
      have HO := Lib.hid hOl
      have HC := Lib.hid hC
      have HM := Lib.hid hM
      have HE0 := Lib.hid he0
      have HQ2 := Lib.hid HQ.out
      have bT2 : -262136 ≤ T ∧ T ≤ 262136 := by omega
      have hP2 : wrap64 (2 ^ s.toNat) = P := by rw [eP]; exact wrap_small bP.1 bP.2
      have hqI : (q : Int) < k := by omega
      have hqI0 : (0 : Int) ≤ q := by omega
      clear hHE hpE HI HT HQ hS hC hM eV eP he0 hOl hlt
      by_cases hD : (k : Int) < P - T ∨ P - T < -(k : Int)
      · have HX := Lib.hid (quant_weight H.out HL.out HE0.out (by rw [En.out, HC.out]; exact hD))
        rcases hD with hD | hD
        all_goals
          go_wp2_with fail
          go_returns
          exact quant_nil s L rfl HX.out (by omega) HB.out
      · have hw : -(k : Int) ≤ P - T ∧ P - T ≤ (k : Int) := by omega
        obtain ⟨M, eM⟩ : ∃ M, V + (P - T) = M := ⟨_, rfl⟩
        have bM : -40000 ≤ M ∧ M ≤ 40000 := by omega
        have HM2 : Hid (topN s L = M) := Lib.hid (by rw [HM.out, eM])
        have HW : Hid (-(L.length : Int) ≤ corr s L ∧ corr s L ≤ (L.length : Int)) := Lib.hid (by rw [En.out, HC.out]; exact hw)
        have hst := HP.out.store q M
        have hz0 : (outs s L).set q M ≠ [] ∨ True := .inr trivial
        have kc2 := hst.1.cell (k := q) (by rw [List.length_set, HO.out]; exact hqk)
        have e2 : ((outs s L).set q M).getD q 0 = M := by rw [List.getD_eq_getElem?_getD, List.getElem?_set_self (by rw [HO.out]; exact hqk)]; rfl
        rw [e2] at kc2
        have HS := Lib.hid hst.1
        have HB2 := Lib.hid (show Below w.heap.size w (wr.setCell ⟨w.heap.size, q, none⟩ (.int .i64 M)) from HB.out.setCell (Nat.le_refl _) _)
        clear hst e2 hz0 hw HM
        go_upto_region 21 with fail
        obtain ⟨wz, ewz⟩ : ∃ wz, wr.setCell ⟨w.heap.size, q, none⟩ (.int .i64 M) = wz := ⟨_, rfl⟩
        rw [ewz] at kc2 HS HB2
        simp only [ewz]
        clear ewz kc kf eM
        by_cases g1 : 32767 < M
        · have HX := Lib.hid (quant_over H.out HL.out HE0.out HW.out (by rw [HM2.out]; exact .inl g1))
          go_wp2_with fail
          go_returns
          exact quant_nil s L rfl HX.out (by omega) HB2.out
        · by_cases g2 : M < -32767
          · have HX := Lib.hid (quant_over H.out HL.out HE0.out HW.out (by rw [HM2.out]; exact .inr g2))
            go_wp2_with fail
            go_returns
            exact quant_nil s L rfl HX.out (by omega) HB2.out
          · have HX := Lib.hid (quant_ok H.out HL.out HE0.out HW.out (by rw [HM2.out]; omega))
            go_wp2_with fail
            go_returns
            have hlen : ((outs s L).set q M).length = k := by rw [List.length_set, HO.out]
            rw [HX.out.1, HX.out.2, En.out, ← HQ2.out, HM2.out]
            refine ⟨some ⟨w.heap.size, 0, none⟩, k, ?_, HS.out.isS, HB2.out, fun b o s e => by cases e; exact Nat.le_refl _⟩
            rw [hlen]; rfl
/-- Quantize, at every list and shift -/
theorem rquant_any (s : Int) (L : List Int) (a : Option Addr) (cap : Nat) (w : World) (hs : SliceU w a L) (hf : FitsU L) : Calls Tryd.prog 37 #[.slice a L.length cap, .int .i64 s] w (QuantPost (quantL s L) (quantC s L) w) := by
  by_cases h : s < 0 ∨ 24 < s
  · exact rquant_out s L a cap w h
  · by_cases hl : L.length = 0 ∨ 8 < L.length
    · exact rquant_len s L a cap w (by omega) hl
    · exact rquant_in s L a cap w hs hf (by omega) (by omega)
end Go.Proofs.YtjmdpebocchdhaaDoor
