/- The contract of plane.row: a part of a plane's pixels. The builtin copy of ints into a block of one's own, as a law at a step of a region; copied rows as plain lists. -/
import Derived.Test.YtpmajophkhihlaaPEqual
import Derived.Laws.CopyOwn
namespace Go.Proofs.Ytpmajophkhihlaa
open Go.ChangeShapes Go.WideShapes Go.ChangeAt Go.RowKit
set_option linter.unusedVariables false
set_option linter.unusedSimpArgs false

theorem prow_any (W H M : Int) (b off len cap : Nat) (x y : Int) (n F : Nat) (w : World) (hF : y * W + x = F) (hT : y * W = F - x) (x0 : 0 ≤ x) (x1 : x ≤ F) (n1 : 1 ≤ n) (hn : F + n ≤ len) (hc : len ≤ cap) (hm : cap ≤ maxLen) :
    Calls Try.prog 35 #[.agg #[.int .i64 W, .int .i64 H, .int .i64 M, .slice (some ⟨b, off, none⟩) len cap], .int .i64 x, .int .i64 y, .int .i64 n] w
      fun e w' => e = .returned (.slice (some ⟨b, off + F, none⟩) n (cap - F)) ∧ Below w.heap.size w w' := by
  unfold maxLen at hm
  obtain ⟨T, eT⟩ : ∃ T, y * W = T := ⟨_, rfl⟩
  rw [eT] at hF hT
  go_enter Try.func35, Try.ntmps35
  go_wp2_with fail
  go_ret
  refine ⟨?_, balloc (bref _) _⟩
  simp
open Go.ChangeShapes Go.WideShapes Go.ChangeAt Go.RowKit
set_option linter.unusedVariables false
set_option linter.unusedSimpArgs false

/-- X laid over K from a place on -/
def layL (K : List Int) (off : Nat) (X : List Int) : List Int := K.take off ++ X ++ K.drop (off + X.length)
theorem layL_len {K : List Int} {off : Nat} {X : List Int} (h : off + X.length ≤ K.length) : (layL K off X).length = K.length := by simp [layL]; omega
theorem layL_at {K : List Int} {off : Nat} {X : List Int} (h : off + X.length ≤ K.length) (j : Nat) : (layL K off X).getD j 0 = if off ≤ j ∧ j < off + X.length then X.getD (j - off) 0 else K.getD j 0 := by
  unfold layL
  have ht : (K.take off).length = off := by simp; omega
  simp only [List.getD_eq_getElem?_getD]
  by_cases h1 : j < off
  · rw [if_neg (by omega), List.append_assoc, List.getElem?_append_left (by omega), List.getElem?_take_of_lt h1]
  · by_cases h2 : j < off + X.length
    · rw [if_pos (by omega), List.append_assoc, List.getElem?_append_right (by omega), ht, List.getElem?_append_left (by omega)]
    · rw [if_neg (by omega), List.getElem?_append_right (by simp; omega), List.getElem?_drop]
      congr 2
      simp; omega
theorem run_copy_pix (w : World) (ty : TypeId) (base g cap : Nat) (K : List Int) (hp : PixAt base w g cap K) (off dCap b so sCap n : Nat) (X : List Int) (hn : X.length = n) (hfit : off + n ≤ K.length)
    (hX : ∀ j, j < n → w.cell? ⟨b, so + j, none⟩ = some (.int .i64 (X.getD j 0))) :
    ∃ w', (Builtin.copy_ #[22, 22] ty #[.slice (some ⟨g, off, none⟩) n dCap, .slice (some ⟨b, so, none⟩) n sCap]).run Try.prog w = .ok (goInt n) w' ∧ PixAt base w' g cap (layL K off X) ∧ w.grownBy w' (some g) := by
  subst hn
  obtain ⟨hl, hh⟩ := hp
  rcases hh with ⟨h, _⟩ | ⟨g', cap', cur, hv, hb, hg, h1, h2, h3, h4⟩
  · simp at h
  · simp at hv
    obtain ⟨rfl, rfl⟩ := hv
    have hc : (ints X).length = Nat.min X.length X.length := by simp [ints]
    have hlen : (ints X).length = X.length := ints_len X
    have hrun := run_copy_row (P := Try.prog) w 22 22 ty 3 g off X.length dCap ⟨b, so, none⟩ X.length sCap cur 3 (ints X) Try.underlying22 (by kernel_rfl) hg hc (fun j u hu => by
      rw [ints_at] at hu
      split at hu
      · rename_i hj; simp at hu; subst hu; rw [add_plain]; exact hX j hj
      · cases hu) (by rw [h3, hlen]; omega) ints_one
    rw [hlen] at hrun
    refine ⟨_, hrun, ⟨?_, .inr ⟨g, cap, _, by rw [layL_len hfit], hb, setRow_heap w g _ _ _ _ hg, ?_, h2, ?_, ?_⟩⟩, ⟨rfl, rfl, rfl, by simp [World.setRow], fun k hk hne => setRow_other w g k _ (by simpa using hne)⟩⟩
    · simp [ints]
    · rw [layL_len hfit]; exact h1
    · simp [ints]; omega
    · simp only [Nat.mul_one] at h4 ⊢
      rw [layL_len hfit]
      have e : cur.toList = ints K ++ cur.toList.drop K.length := by rw [← h4]; simp
      have hX' : (ints X).length = X.length := ints_len X
      have hK' : (ints K).length = K.length := ints_len K
      have e1 : cur.toList.take off = ints (K.take off) := by rw [e, List.take_append_of_le_length (by omega)]; simp [ints]
      have e2 : cur.toList.drop (off + X.length) = ints (K.drop (off + X.length)) ++ cur.toList.drop K.length := by
        rw [e, List.drop_append_of_le_length (by omega)]; simp [ints]
      rw [List.toList_toArray, e1, e2]
      have e3 : ints (K.take off) ++ ints X ++ (ints (K.drop (off + X.length)) ++ cur.toList.drop K.length) = ints (layL K off X) ++ cur.toList.drop K.length := by simp [ints, layL]
      rw [e3, List.take_append_of_le_length (by rw [ints_len, layL_len hfit]; omega)]
      rw [List.take_of_length_le (by rw [ints_len, layL_len hfit]; omega)]
theorem step_copy_pix {ops : Array Oper} {o : Oper} {a : Act} {w : World} {K : Act → World → Prop} {Q : Exit → Act → World → Prop} {E : Prop} (hgd : o.guard = none) (d s : Operand)
    (ho : o.op = .call { callee := .builtin .copy, args := #[d, s], argTypes := #[22, 22] }) (base g cap : Nat) (Kp : List Int) (off dCap b so sCap n : Nat) (X : List Int)
    (hd : a.eval d = .slice (some ⟨g, off, none⟩) n dCap) (hs : a.eval s = .slice (some ⟨b, so, none⟩) n sCap) (hp : PixAt base w g cap Kp) (hn : X.length = n) (hfit : off + n ≤ Kp.length)
    (hX : ∀ j, j < n → w.cell? ⟨b, so + j, none⟩ = some (.int .i64 (X.getD j 0)))
    (h : ∀ w', PixAt base w' g cap (layL Kp off X) → w.grownBy w' (some g) → K (a.put o.dst (goInt n)) w') :
    if Region.wanted o (yielded ops a.tmps) = true then Oper.wp Try.prog o a w K Q else E := by
  have hw : Region.wanted o (yielded ops a.tmps) = true := by simp [Region.wanted, hgd]
  rw [if_pos hw]
  obtain ⟨w', hrun, h1, h2⟩ := run_copy_pix w o.type base g cap Kp hp off dCap b so sCap n X hn hfit hX
  unfold Oper.wp
  simp [execOp, ho, resolve, invoke, builtin, hd, hs, hrun, Result.andThen]
  exact h w' h1 h2
end Go.Proofs.Ytpmajophkhihlaa
