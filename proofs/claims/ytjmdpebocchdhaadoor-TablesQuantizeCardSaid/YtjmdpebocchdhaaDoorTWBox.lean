/- common and Box of the package tables as contracts: the parts of an interval, the table or the error; the world gets new blocks at most. -/
import Derived.Test.YtjmdpebocchdhaaDoorTWDiv
import Derived.Test.YtjmdpebocchdhaaDoorTWMade
import Derived.Test.YtjmdpebocchdhaaDoorTWValid
import Derived.Test.YtjmdpebocchdhaaDoorTBox
namespace Go.Proofs.YtjmdpebocchdhaaDoor
open Go.ChangeShapes Go.WideShapes Go.ChangeAt Go.RowKit
set_option linter.unusedVariables false
set_option linter.unusedSimpArgs false

/-- the first coordinate and the parts of an interval came back -/
def ComPost (F : Int) (L : List Int) (w : World) (e : Ending) (w' : World) : Prop := ∃ v, e = .returned (.tuple #[.int .i64 F, v]) ∧ OwnL w.heap.size w' v L ∧ Below w.heap.size w w'
set_option maxRecDepth 100000 in
set_option maxHeartbeats 4000000 in
theorem wcommon_any (A B m F : Int) (N : Nat) (PL : List Int) (w : World) (hm : 1 ≤ m ∧ m ≤ 128) (hA : A.tdiv m = F) (hFb : 0 ≤ F ∧ F ≤ 128) (hN : N ≤ 16640) (hPL : PL.length = N)
    (h1 : ∀ j : Nat, j < N → ∃ KM K1M Q1 Q2 x : Int, wrap64 ((F + (j : Int)) * m) = KM ∧ wrap64 ((F + (j : Int) + 1) * m) = K1M ∧ min B K1M = Q1 ∧ max A KM = Q2 ∧ wrap64 (Q1 - Q2) = x ∧ KM < B ∧ PL.getD j 0 = x)
    (h2 : ∃ KM : Int, wrap64 ((F + (N : Int)) * m) = KM ∧ ¬ KM < B) :
    Calls Tryd.prog 31 #[.int .i64 A, .int .i64 B, .int .i64 m] w (ComPost F PL w) := by
  obtain ⟨j0, hj, hj0, hj1, hj2⟩ := info_parts infoI
  have hj' := Lib.hid hj
  have hj0' := Lib.hid hj0
  have hj1' := Lib.hid hj1
  have hj2' := Lib.hid hj2
  have HQ := Lib.hid h1
  have HE := Lib.hid h2
  have HPL := Lib.hid hPL
  have HNb := Lib.hid hN
  have HFb := Lib.hid hFb
  have hFw : wrap64 F = F := w64 (by omega)
  have hm0 : ¬ m = 0 := by omega
  have H0 : Hid (PartIn w (.slice none 0 0) (PL.take 0) w) := Lib.hid ⟨bref _, OwnL.nil _ _⟩
  clear hj hj0 hj1 hj2 h1 h2 hPL hN hFb hm
  go_enter Tryd.func31, Tryd.ntmps31
  go_wp2_with fail
  go_loopw [9, 10] (fun vp kk wr2 => ∃ j : Nat, Hid (j ≤ N) ∧ kk = .int .i64 (F + j) ∧ Hid (PartIn w vp (PL.take j) wr2)) (fun _ kk _ => N - (intOf kk - F).toNat)
  case atStart => exact ⟨0, Lib.hid (Nat.zero_le _), by simp, H0⟩
  case round =>
    clear H0
    obtain ⟨j, hjN, rfl, HPI⟩ := hrel
    by_cases hltj : j < N
    · obtain ⟨KM, K1M, Q1, Q2, x, r1, r2, r3, r4, r5, r6, r7⟩ := HQ.out j hltj
      have hjb := Lib.hid (show j ≤ 16640 from Nat.le_trans (Nat.le_of_lt hltj) HNb.out)
      have HTK := Lib.hid (show PL.take (j + 1) = PL.take j ++ [x] by
        rw [List.take_succ_eq_append_getElem (by rw [HPL.out]; exact hltj)]
        congr 2
        rw [← r7, List.getD_eq_getElem?_getD, List.getElem?_eq_getElem (by rw [HPL.out]; exact hltj)]; rfl)
      obtain ⟨L, eL⟩ : ∃ L, PL.take j = L := ⟨_, rfl⟩
      have hLl : L.length = j := by rw [← eL, List.length_take, HPL.out]; exact Nat.min_eq_left (Nat.le_of_lt hltj)
      rw [eL] at HPI HTK
      have r0 : wrap64 (F + (j : Int) + 1) = F + (j : Int) + 1 := w64 (by have := hjb.out; have := HFb.out; omega)
      have M1 := Lib.hid (show L.length + 1 ≤ maxLen by unfold maxLen; have := hjb.out; omega)
      have M2 := Lib.hid (show (L.length + 1) * 8 ≤ 140737488355328 by have := hjb.out; omega)
      have M3 : Hid (∀ o : Obj, w.heap.size ≤ (wr.alloc o).heap.size) := Lib.hid (fun o => by have := HPI.out.1.size; simp; omega)
      have HLL := Lib.hid hLl
      clear eL hLl r7
      go_wp2_with (at_builtin; go_must (refine wpList_append_lies _ rfl _ _ _ rfl w.heap.size 3 j0 (.int .i64 0) 1 8 Tryd.underlying22 hj'.out hj0'.out hj1'.out hj2'.out rfl (by decide) u9 L.length (ints L) rfl (HPI.out.2.alloc _) ⟨wr.heap.size, 0, none⟩ 1 1 [.int .i64 x] rfl rfl (World.news_of_block (heap_alloc_new _ _)) (by intro u hu; simp at hu; subst hu; rfl) (by decide) M1.out M2.out (M3.out _) (wr.heap.size + 1) (by simp) ?_); intro g gc wB hown hgrow hat hlB)
      have HFF := Lib.hid ((HPI.out.below (balloc (bref wr) (.cells #[.int .i64 x] 3))).app hown hgrow)
      clear r1 r2 r3 r4 r5 r6
      go_roundw
      case rel => exact ⟨j + 1, Lib.hid hltj, by rw [r0]; exact congrArg (Value.int .i64) (by omega), by rw [HTK.out]; exact HFF⟩
      case measure => rw [r0]; simp only [intOf]; omega
    · have hjE : j = N := Nat.le_antisymm hjN.out (Nat.le_of_not_lt hltj)
      subst hjE
      obtain ⟨KE, q11, q12⟩ := HE.out
      have HTE := Lib.hid (show PL.take j = PL by rw [← HPL.out]; exact List.take_length)
      rw [HTE.out] at HPI
      go_wp2_with fail
      go_returns
      exact ⟨_, rfl, HPI.out.2, HPI.out.1⟩
end Go.Proofs.YtjmdpebocchdhaaDoor
