/- The statement ExtentSum: for every list of ints and every int the law function returns true and leaves its arguments as they were. No condition. -/
import Derived.Test.YtigenddmphfjlaaNear
import Derived.Test.YtigenddmphfjlaaLaw
import Derived.ChangeSlices
import Derived.Laws.MakeOwn
namespace Go.Proofs.Ytigenddmphfjlaa
open Go.ChangeShapes Go.WideShapes Go.ChangeAt Go.RowKit
set_option linter.unusedVariables false

/-- a slice's elements, wherever they lie; of an empty one nothing is said -/
def SliceIs (w : World) (a : Option Addr) (xs : List Int) : Prop := ∀ k, k < xs.length → ∃ b off, a = some ⟨b, off, none⟩ ∧ w.cell? ⟨b, off + k, none⟩ = some (.int .i64 (xs.getD k 0))

theorem sum_gen (xs : List Int) (a : Option Addr) (cap : Nat) (l : Int) (w : World) (hx : Fits xs) (hc : SliceIs w a xs) (hm : xs.length ≤ 9223372036854775807) (l0 : -9223372036854775808 ≤ l) (l1 : l ≤ 9223372036854775807) :
    Calls Try.prog 13 #[.slice a xs.length cap, .int .i64 l] w (SumPost xs l w) := by
  by_cases hl : l < 0
  · have H := Lib.hid (sum_none (sumO_neg (xs := xs) hl))
    clear hx hc
    go_enter Try.func13, Try.ntmps13
    go_wp2
    go_ret2
    exact ⟨ret_ib H.out, rfl⟩
  · have H := Lib.hid (sumO_pos (xs := xs) (l := l) (by omega))
    have hx' := Lib.hid hx
    have hc' := Lib.hid hc
    clear hx hc
    go_enter Try.func13, Try.ntmps13
    go_wp2
    go_loop [6, 13] (fun s i => ∃ (k : Nat) (t : Int), k ≤ xs.length ∧ 0 ≤ t ∧ t ≤ l ∧ i = .int .i64 k ∧ s = .int .i64 t ∧ Hid (sumO xs l = sumFrom l t (xs.drop k))) (fun _ i => xs.length - (intOf i).toNat)
    case atStart => exact ⟨0, 0, by omega, by omega, by omega, rfl, rfl, H.out⟩
    case round =>
      obtain ⟨k, t, hk, t0, t1, rfl, rfl, HT⟩ := hrel
      by_cases hlt : k < xs.length
      · obtain ⟨x0, x1⟩ := hx'.out k hlt
        obtain ⟨b, off, rfl, hcell⟩ := hc'.out k hlt
        have hstop := Lib.hid (sumFrom_stop xs l t k hlt)
        have hstep := Lib.hid (sumFrom_step xs l t k hlt)
        obtain ⟨x, ex⟩ : ∃ x, xs.getD k 0 = x := ⟨_, rfl⟩
        rw [ex] at x0 x1 hcell hstop hstep
        clear ex
        by_cases hn : x < 0
        · have HS := Lib.hid (sum_none (HT.out.trans (hstop.out (.inl hn))))
          go_wp2
          go_ret2
          exact ⟨ret_ib HS.out, rfl⟩
        · by_cases hm : l - t < x
          · have HS := Lib.hid (sum_none (HT.out.trans (hstop.out (.inr hm))))
            go_wp2
            go_ret2
            exact ⟨ret_ib HS.out, rfl⟩
          · have HS := Lib.hid (HT.out.trans (hstep.out (by omega)))
            go_wp2
            go_round
            case rel => exact ⟨k + 1, t + x, by omega, by omega, by omega, by go_num, rfl, HS.out⟩
            case measure => simp [intOf]; omega
      · have HS := Lib.hid (sum_some (HT.out.trans (sumFrom_end xs l t k (by omega))))
        go_wp2
        go_ret2
        exact ⟨ret_ib HS.out, rfl⟩
theorem rsum_gen (xs : List Int) (a : Option Addr) (cap : Nat) (l : Int) (w : World) (hx : Fits xs) (hc : SliceIs w a xs) (hm : xs.length ≤ 9223372036854775807) (l0 : -9223372036854775808 ≤ l) (l1 : l ≤ 9223372036854775807) :
    Calls Try.prog 14 #[.slice a xs.length cap, .int .i64 l] w (SumPost xs l w) := by
  by_cases hl : l < 0
  · have H := Lib.hid (sum_none (sumO_neg (xs := xs) hl))
    clear hx hc
    go_enter Try.func14, Try.ntmps14
    go_wp2
    go_ret2
    exact ⟨ret_ib H.out, rfl⟩
  · have H := Lib.hid (sumO_pos (xs := xs) (l := l) (by omega))
    have hx' := Lib.hid hx
    have hc' := Lib.hid hc
    clear hx hc
    go_enter Try.func14, Try.ntmps14
    go_wp2
    go_loop [6, 7] (fun s i => ∃ (k : Nat) (t : Int), k ≤ xs.length ∧ 0 ≤ t ∧ t ≤ l ∧ i = .int .i64 k ∧ s = .int .i64 t ∧ Hid (sumO xs l = sumFrom l t (xs.drop k))) (fun _ i => xs.length - (intOf i).toNat)
    case atStart => exact ⟨0, 0, by omega, by omega, by omega, rfl, rfl, H.out⟩
    case round =>
      obtain ⟨k, t, hk, t0, t1, rfl, rfl, HT⟩ := hrel
      by_cases hlt : k < xs.length
      · obtain ⟨x0, x1⟩ := hx'.out k hlt
        obtain ⟨b, off, rfl, hcell⟩ := hc'.out k hlt
        have hstop := Lib.hid (sumFrom_stop xs l t k hlt)
        have hstep := Lib.hid (sumFrom_step xs l t k hlt)
        obtain ⟨x, ex⟩ : ∃ x, xs.getD k 0 = x := ⟨_, rfl⟩
        rw [ex] at x0 x1 hcell hstop hstep
        clear ex
        by_cases hn : x < 0
        · have HS := Lib.hid (sum_none (HT.out.trans (hstop.out (.inl hn))))
          go_wp2
          go_ret2
          exact ⟨ret_ib HS.out, rfl⟩
        · by_cases hm : l - t < x
          · have HS := Lib.hid (sum_none (HT.out.trans (hstop.out (.inr hm))))
            go_wp2
            go_ret2
            exact ⟨ret_ib HS.out, rfl⟩
          · have HS := Lib.hid (HT.out.trans (hstep.out (by omega)))
            go_wp2
            go_round
            case rel => exact ⟨k + 1, t + x, by omega, by omega, by omega, by go_num, rfl, HS.out⟩
            case measure => simp [intOf]; omega
      · have HS := Lib.hid (sum_some (HT.out.trans (sumFrom_end xs l t k (by omega))))
        go_wp2
        go_ret2
        exact ⟨ret_ib HS.out, rfl⟩


/-- the new slice of the call's own while it is filled: its first k cells are known -/
def Made (W : World) (len k : Nat) (g : Nat → Int) (wr : World) : Prop :=
  Below W.heap.size W wr ∧ W.heap.size < wr.heap.size ∧ (∀ j, j < len → ∃ v, wr.cell? ⟨W.heap.size, j, none⟩ = some v) ∧ (∀ j, j < len → wr.frozen? ⟨W.heap.size, j, none⟩ = false) ∧ (∀ j, j < k → wr.cell? ⟨W.heap.size, j, none⟩ = some (.int .i64 (g j)))
theorem made_start (W : World) (A : Array Value) (t : TypeId) (len : Nat) (g : Nat → Int) (h : A.size = len) : Made W len 0 g (W.alloc (.cells A t)) := by
  have hb : (W.alloc (.cells A t)).heap[W.heap.size]? = some (.cells A t) := (MapKept.heap_alloc W _).1
  refine ⟨(Below.refl _ _).alloc (Nat.le_refl _) _, by simp, fun j hj => ?_, fun j hj => ?_, fun j hj => by omega⟩
  · refine ⟨A[j]'(by omega), ?_⟩
    unfold World.cell?
    rw [hb]
    simp
  · unfold World.frozen?
    rw [hb]
    simp
theorem made_step {W wr : World} {len k : Nat} {g : Nat → Int} (h : Made W len k g wr) (hk : k < len) : Made W len (k + 1) g (wr.setCell ⟨W.heap.size, k, none⟩ (.int .i64 (g k))) := by
  obtain ⟨h1, h2, h3, h4, h5⟩ := h
  refine ⟨h1.setCell (Nat.le_refl _) _, by simpa [World.setCell] using h2, fun j hj => ?_, fun j hj => by rw [World.frozen?_setCell]; exact h4 j hj, fun j hj => ?_⟩
  · obtain ⟨v, hv⟩ := h3 j hj
    exact cell?_setCell_some hv
  · by_cases e : k = j
    · subst e
      obtain ⟨v, hv⟩ := h3 k hk
      exact World.cell?_setCell_same _ _ _ hv
    · rw [World.cell?_setCell_other _ _ _ _ (by simp)]
      exact h5 j (by omega)
/-- the numbers that are written -/
def modN (xs : List Int) : List Int := xs.map (· % 1048576)
theorem modN_get (xs : List Int) (k : Nat) : (modN xs).getD k 0 = xs.getD k 0 % 1048576 := by
  unfold modN
  simp only [List.getD_eq_getElem?_getD, List.getElem?_map]
  cases xs[k]? <;> simp
theorem modN_fits (xs : List Int) : Fits (modN xs) := by
  intro k _
  rw [modN_get]
  omega
theorem made_is {W wr : World} {xs : List Int} (h : Made W xs.length xs.length (fun j => xs.getD j 0 % 1048576) wr) : SliceIs wr (some ⟨W.heap.size, 0, none⟩) (modN xs) := by
  intro k hk
  refine ⟨W.heap.size, 0, rfl, ?_⟩
  rw [Nat.zero_add, modN_get]
  exact h.2.2.2.2 k (by simpa [modN] using hk)
theorem is_below {W wr : World} {a : Option Addr} {xs : List Int} (h : SliceIs W a xs) (hb : Below W.heap.size W wr) : SliceIs wr a xs := by
  intro k hk
  obtain ⟨b, off, rfl, hc⟩ := h k hk
  exact ⟨b, off, rfl, by rw [hb.cell (World.block_lt_of_cell? _ _ hc)]; exact hc⟩
theorem info3 : (Try.prog.info? 3).map (fun i => (i.zero, i.size, i.bytes)) = some (some (.int .i64 0), 1, 8) := by kernel_rfl
theorem run_mk (n : Nat) (hn : n ≤ 2000) : ∃ A : Array Value, A.size = n ∧ ∀ W : World, (Instr.makeSlice 22 (.int .i64 (n : Int)) (.int .i64 (n : Int))).run Try.prog W = .ok (.slice (some ⟨W.heap.size, 0, none⟩) n n) (W.alloc (.cells A 3)) := by
  obtain ⟨i0, hi, hz0, hz1, hz2⟩ := info_parts info3
  refine ⟨madeCells (Value.cells (.int .i64 0)) (n * 1), by simp [size_madeCells], fun W => ?_⟩
  have := run_make W 22 3 i0 (.int .i64 0) Try.underlying22 hi hz0 .i64 .i64 (n : Int) (n : Int) (by omega) (by omega) (by rw [hz2]; omega) (by omega)
  rw [this, hz1]
  simp

theorem sane_below (w : World) : Calls Try.prog 11 #[] w fun e w' => e = .returned (.bool true) ∧ Below w.heap.size w w' := by
  have e1 : mulB 1099511627776 1099511627776 4611686018427387904 = false := by simp [mulB]
  have e2 : alignB 17 16 32 = true := by simp [alignB, mulB, ceilN]
  have e3 : alignN 17 16 32 = 32 := by simp [alignN, mulN, mulB, ceilN]
  have e4 : sumB [1, 2] 3 = true := by simp [sumB, sumO, sumFrom]
  have e5 : sumN [1, 2] 3 = 3 := by simp [sumN, sumO, sumFrom]
  have e6 : ceilN 7 3 = 3 := by simp [ceilN]
  go_enter Try.func11, Try.ntmps11
  go_wp2_with (first
    | (go_at_call 9; refine (mul_any _ _ _ _ (by omega) (by omega) (by omega) (by omega) (by omega) (by omega)).mono ?_; rintro e w' ⟨rfl, rfl⟩)
    | (go_at_call 15; refine (align_any _ _ _ _ (by omega) (by omega) (by omega) (by omega) (by omega) (by omega)).mono ?_; rintro e w' ⟨rfl, rfl⟩)
    | (go_at_call 17; refine (ceil_any _ _ _ (by omega) (by omega) (by omega) (by omega)).mono ?_; rintro e w' ⟨rfl, rfl⟩)
    | (go_at_call 13; refine (sum2_any 1 2 _ _ _ (by omega) (by omega) (by omega) (by omega) (by go_cell) (by go_cell) (by omega) (by omega)).mono ?_; rintro e w' ⟨rfl, rfl⟩))
  go_ret
  exact ⟨rfl, (Below.refl _ _).alloc (Nat.le_refl _) _⟩

theorem modN_len (xs : List Int) : xs.length = (modN xs).length := by simp [modN]
theorem sum_len (xs : List Int) (n : Nat) (a : Option Addr) (cap : Nat) (l : Int) (w : World) (hn : n = xs.length) (hx : Fits xs) (hc : SliceIs w a xs) (hm : n ≤ 9223372036854775807) (l0 : -9223372036854775808 ≤ l) (l1 : l ≤ 9223372036854775807) :
    Calls Try.prog 13 #[.slice a n cap, .int .i64 l] w (SumPost xs l w) := by
  subst hn; exact sum_gen xs a cap l w hx hc hm l0 l1
theorem rsum_len (xs : List Int) (n : Nat) (a : Option Addr) (cap : Nat) (l : Int) (w : World) (hn : n = xs.length) (hx : Fits xs) (hc : SliceIs w a xs) (hm : n ≤ 9223372036854775807) (l0 : -9223372036854775808 ≤ l) (l1 : l ≤ 9223372036854775807) :
    Calls Try.prog 14 #[.slice a n cap, .int .i64 l] w (SumPost xs l w) := by
  subst hn; exact rsum_gen xs a cap l w hx hc hm l0 l1
theorem near_is {n : Int} {W wr : World} {a : Option Addr} {xs : List Int} (h : SliceIs W a xs) (hn : NearRow n W wr) : SliceIs wr a xs := by
  intro k hk
  obtain ⟨b, off, rfl, hc⟩ := h k hk
  exact ⟨b, off, rfl, by rw [hn.old (World.block_lt_of_cell? _ _ hc)]; exact hc⟩
theorem NearRow.below {n : Int} {w w' : World} (h : NearRow n w w') {B : Nat} (hB : B ≤ w.heap.size) : Below B w w' := by
  unfold NearRow at h; subst h; exact (Below.refl _ _).alloc hB _

set_option maxRecDepth 100000 in
theorem sum_walk (xs : List Int) (a : Option Addr) (cap : Nat) (l : Int) (w : World) (hx : Fits xs) (hs : SliceIs w a xs) (hm : xs.length ≤ 9223372036854775807) (l0 : -9223372036854775808 ≤ l) (l1 : l ≤ 9223372036854775807) :
    Calls Try.prog 4 #[.slice a xs.length cap, .int .i64 l] w fun e w' => e = .returned (.bool true) ∧ Below w.heap.size w w' := by
  by_cases hbig : 2000 < xs.length
  · clear hx hs
    go_enter Try.func4, Try.ntmps4
    go_wp2_with (go_at_call 11; refine (sane_below _).mono ?_; rintro e w' ⟨rfl, hz⟩)
    go_ret
    exact ⟨rfl, hz⟩
  · have hx' := Lib.hid hx
    have hs' := Lib.hid hs
    clear hx hs
    obtain ⟨A, hA, hmk⟩ := run_mk xs.length (by omega)
    have hA' := Lib.hid hA
    clear hA
    have hd : decide (2000 < (xs.length : Int)) = false := decide_eq_false (by omega)
    go_enter Try.func4, Try.ntmps4
    go_wp2
    clear hmk hd
    obtain ⟨w1, e1⟩ : ∃ w1 : World, w1 = w.alloc (.cells A 3) := ⟨_, rfl⟩
    have H0 : Made w xs.length 0 (fun j => xs.getD j 0 % 1048576) w1 := by rw [e1]; exact made_start _ _ _ _ _ hA'.out
    rw [← e1]
    clear e1
    go_loopw [6] (fun i wr => ∃ k : Nat, k ≤ xs.length ∧ i = .int .i64 k ∧ Made w xs.length k (fun j => xs.getD j 0 % 1048576) wr) (fun i _ => xs.length - (intOf i).toNat)
    case atStart => exact ⟨0, by omega, rfl, H0⟩
    case round =>
      clear H0
      obtain ⟨k, hk, rfl, HM⟩ := hrel
      by_cases hlt : k < xs.length
      · obtain ⟨b, off, rfl, hcell⟩ := (is_below hs'.out HM.1) k hlt
        obtain ⟨x0, x1⟩ := hx'.out k hlt
        have HS := made_step HM hlt
        obtain ⟨v, hv⟩ := HM.2.2.1 k hlt
        have hfr := HM.2.2.2.1 k hlt
        obtain ⟨x, ex⟩ : ∃ x, xs.getD k 0 = x := ⟨_, rfl⟩
        rw [ex] at HS hcell x0 x1
        have HS' := Lib.hid HS
        have ex' := Lib.hid ex
        clear ex HM HS
        have hkI : (k : Int) < xs.length := by omega
        go_wp2_with (go_at_call 12; refine (mod_any _ _ _ (by omega) (by omega) (by omega) (by omega)).mono ?_; rintro e w' ⟨rfl, rfl⟩)
        go_roundw
        case rel => exact ⟨k + 1, hlt, by go_num, HS'.out⟩
        case measure => simp [intOf]; omega
      · obtain rfl : k = xs.length := by omega
        have hB := HM.1
        have hz := HM.2.1
        have hM := Lib.hid (made_is HM)
        clear HM
        go_wp2_with fail
        refine (near_row _ _ l0 l1).mono ?_
        rintro e w2 ⟨rfl, HN⟩
        have hc := Lib.hid HN.cell
        have hs2 := Lib.hid (near_is (is_below hs'.out hB) HN)
        have hM2 := Lib.hid (near_is hM.out HN)
        have hB2 := Lib.hid (hB.trans (HN.below (Nat.le_of_lt hz)))
        clear HN hM hB hz
        go_wp2
        go_loop [41] (fun i => ∃ k : Nat, k ≤ 4 ∧ i = .int .i64 k) (fun i => 4 - (intOf i).toNat)
        case atStart => exact ⟨0, by omega, rfl⟩
        case round =>
          obtain ⟨j, hj, rfl⟩ := hrel
          by_cases hjt : j < 4
          · have hcell := hc.out j hjt
            obtain ⟨Z0, Z1⟩ := nearV_bd l j l0 l1
            obtain ⟨Z, eZ⟩ : ∃ Z, nearV l j = Z := ⟨_, rfl⟩
            rw [eZ] at hcell Z0 Z1
            clear eZ
            go_wp2_with fail
            refine (sum_gen xs a cap Z _ hx'.out hs2.out hm Z0 Z1).mono ?_
            rintro e w' ⟨rfl, rfl⟩
            go_wp2_with fail
            refine (rsum_gen xs a cap Z _ hx'.out hs2.out hm Z0 Z1).mono ?_
            rintro e w' ⟨rfl, rfl⟩
            go_wp2_with fail
            refine (sum_len (modN xs) xs.length _ _ Z _ (modN_len xs) (modN_fits xs) hM2.out hm Z0 Z1).mono ?_
            rintro e w' ⟨rfl, rfl⟩
            go_wp2_with fail
            refine (rsum_len (modN xs) xs.length _ _ Z _ (modN_len xs) (modN_fits xs) hM2.out hm Z0 Z1).mono ?_
            rintro e w' ⟨rfl, rfl⟩
            go_wp2
            go_round
            case rel => exact ⟨j + 1, hjt, by go_num⟩
            case measure => simp [intOf]; omega
          · go_wp2_with (go_at_call 11; refine (sane_below _).mono ?_; rintro e w' ⟨rfl, hz⟩)
            go_ret
            exact ⟨rfl, hB2.out.trans (hz.mono (by have := hB2.out.size; omega))⟩

namespace extentSum
theorem own : ownKnob Try.prog.godebug = none := by kernel_rfl
theorem laid : laidOutB Try.prog = true := by kernel_rfl
theorem cells3 : Try.prog.cellsOf 3 = 1 := by kernel_rfl
theorem params_ok : ∀ t ∈ Try.f4.params.toList, Try.prog.readableRec t = true ∧ t < Try.prog.types.size := by
  rw [Try.params4]
  intro t ht
  simp at ht
  rcases ht with rfl | rfl
  · exact ⟨by kernel_rfl, of_decide_eq_true (by kernel_rfl)⟩
  · exact ⟨by kernel_rfl, of_decide_eq_true (by kernel_rfl)⟩

set_option maxRecDepth 100000 in
theorem lifted (os : Os) (started : os.Started) (H : Type) (enc : TypeId × Value → H) :
    ReturnsInHanded {} Try.checked os 4 .any (Rows.extentSumSpec.pre6 enc Try.prog Try.f4 Rows.extentSumRow.domain false) (Rows.extentSumSpec.post enc Try.prog Try.f4 false true false false) := by
  refine returnsInHanded_of_change (C := Try.checked) own started (by kernel_rfl) Try.func4
    (ChangeSpec.witness6 (enc := enc) (C := Try.checked) false ⟨#[], #[.slice none 0 0, .int .i64 0], []⟩ 8 (by kernel_rfl) (by kernel_rfl) (by kernel_rfl) (by kernel_rfl)) ?_
  intro W base args ds gs before hval0 hW hcnd _
  have hval : ∀ (j : Nat) t v, Try.f4.params[j]? = some t → args[j]? = some v → Value.okWide Try.prog W .any base t v := hval0
  have hW' := hW
  obtain ⟨p, q, hA0, hV, rfl, hfz, hnd⟩ := hW
  have hA : DataW.TrodAll enc Try.prog W 0 (fun _ => true) true Try.f4.params.toList args.toList ds p := hA0
  rw [Try.params4] at hA hval
  obtain ⟨v0, vs0, d0, ds0, p0, q0, hargs, rfl, rfl, h0, r0⟩ := trodAll_cons hA
  obtain ⟨v1, vs1, d1, ds1, p1, q1, rfl, rfl, rfl, h1, r1⟩ := trodAll_cons r0
  obtain ⟨rfl, rfl, rfl⟩ := trodAll_nil r1
  obtain rfl : args = #[v0, v1] := by cases args; simp_all
  obtain ⟨rfl, rfl⟩ := trodVars_none hV
  obtain ⟨a0, len, cap, rfl⟩ := okWide_slice Try.underlying22 (hval 0 22 v0 rfl rfl)
  obtain ⟨a1, rfl, rfl, rfl, w1⟩ := open_int Try.underlying3 (hval 1 3 v1 rfl rfl) h1
  obtain ⟨fuel, hf⟩ := h0
  clear hA0 hval0
  obtain ⟨l0, l1⟩ := wf_bd w1
  have fin : Calls Try.prog 4 #[.slice a0 len cap, .int .i64 a1] W fun e w' => e = .returned (.bool true) ∧ Below W.heap.size W w' := by
    rcases open_ints Try.underlying22 Try.underlying3 cells3 hf with ⟨hcs, hx⟩ | ⟨a, len', cap', zs, hcs, _, hl, hm, hz, hx, hcell, hwz⟩
    · simp [Value.cells] at hcs
      obtain ⟨rfl, rfl, rfl⟩ := hcs
      exact sum_walk [] none 0 a1 W (fun k hk => by simp at hk) (fun k hk => by simp at hk) (by simp) l0 l1
    · simp [Value.cells] at hcs
      obtain ⟨rfl, rfl, rfl⟩ := hcs
      simp only [if_true] at hz
      have e : len = (zs.take len).length := by simp; omega
      have hle : (zs.take len).length ≤ len := by simp; omega
      have hg : ∀ k, k < (zs.take len).length → (zs.take len).getD k 0 = zs.getD k 0 := by
        intro k hk
        have : k < len := by omega
        simp [List.getD_eq_getElem?_getD, this]
      have := sum_walk (zs.take len) (some a) cap a1 W (fun k hk => by
          rw [hg k hk]
          refine wf_bd (hwz _ ?_)
          rw [List.getD_eq_getElem?_getD, List.getElem?_eq_getElem (by omega)]
          exact List.getElem_mem _) (fun k hk => by
          obtain ⟨b, off, spot⟩ := a
          have hspot : spot = none := by simpa [Addr.add] using World.cell?_spot (hcell 0 (by omega))
          subst hspot
          refine ⟨b, off, rfl, ?_⟩
          rw [hg k hk, ← add_plain]
          exact hcell k (by omega)) (by unfold maxLen at hm; omega) l0 l1
      rw [← e] at this
      exact this
  refine fin.mono fun e W' ⟨he, hb⟩ => ?_
  subst he
  exact ⟨_, rfl, law_post laid rfl Try.underlying4 params_ok rfl hW' rfl hb⟩

theorem over : Rows.extentSumRow.holds Try.pinned (OpenSpec.ofChange Rows.extentSumSpec) :=
  OpenClaim.holds_of_wide 4 Try.f4 rfl rfl rfl rfl rfl rfl rfl ⟨rfl, rfl, rfl, rfl, rfl⟩ rfl rfl rfl rfl rfl (by kernel_rfl) Try.func4 (by kernel_rfl)
    (of_decide_eq_true (by kernel_rfl)) (by unfold Func.isWrapper; first | (rw [if_pos (by decide +kernel)]; kernel_rfl) | (rw [if_neg (by decide +kernel)]; exact ⟨rfl, rfl⟩))
    (fun os started H enc _ => lifted os started H enc)

/-- the statement -/
theorem proved : Rows.ExtentSumSaid := over
#print axioms proved
end extentSum
end Go.Proofs.Ytigenddmphfjlaa
