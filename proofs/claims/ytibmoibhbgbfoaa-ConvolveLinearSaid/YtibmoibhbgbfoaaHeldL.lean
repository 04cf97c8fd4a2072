/- A region that draws its order, loads and stores the same cells: what holds of the cells is asked until the first store comes up; the stores wait for the loads. -/
import Derived.Test.YtibmoibhbgbfoaaQuietIn
namespace Go.Proofs.Ytibmoibhbgbfoaa
open Go.ChangeShapes Go.WideShapes Go.ChangeAt Go.RowKit
set_option linter.unusedVariables false
set_option linter.unusedSimpArgs false

/-- none of the stores has come up -/
def stOff (st : List Nat) (l : Array Bool) : Prop := ∀ k ∈ st, l.getD k true = false
def stOffB (st : List Nat) (l : Array Bool) : Bool := st.all fun k => !(l.getD k true)
theorem stOff_spec {st : List Nat} {l : Array Bool} (h : stOffB st l = true) : stOff st l := fun k hk => by
  have := List.all_eq_true.1 h k hk
  simpa using this
theorem st_no {st : List Nat} {l : Array Bool} {p : Prop} (hb : stOffB st l = false) (h : stOff st l) : p := by
  have h2 : stOffB st l = true := List.all_eq_true.2 fun k hk => by rw [h k hk]; rfl
  rw [hb] at h2; cases h2
/-- whatever order is picked; as long as no store has come up, S holds -/
def wpAnyL (P : Program) (md : Region.Mode) (ops : Array Oper) (Q : Exit → Act → World → Prop) (st : List Nat) (S : World → Prop) : Nat → Array Bool → Act → World → Prop
  | 0, listed, a, w => Region.ready md ops listed = [] ∧ Q .normal a w
  | fuel + 1, listed, a, w =>
    (Region.ready md ops listed = [] → Q .normal a w) ∧
    ∀ i ∈ Region.ready md ops listed, wpOp P ops Q i (fun a' w' => (stOff st (listed.setIfInBounds i true) → S w') ∧ wpAnyL P md ops Q st S fuel (listed.setIfInBounds i true) a' w') a w
section
variable {P : Program} {ops : Array Oper} {Q : Exit → Act → World → Prop} {md : Region.Mode} {st : List Nat} {S : World → Prop}
theorem wpAny_of_L : ∀ (fuel : Nat) (listed : Array Bool) (a : Act) (w : World), wpAnyL P md ops Q st S fuel listed a w → wpAny P md ops Q fuel listed a w
  | 0, _, _, _, h => h
  | fuel + 1, _, _, _, h => ⟨h.1, fun i hi => wpOp_mono (fun a' w' h' => wpAny_of_L fuel _ a' w' h'.2) (h.2 i hi)⟩
/-- what is listed has all listed for which it waits -/
def closedL (md : Region.Mode) (ops : Array Oper) (l : Array Bool) : Prop := ∀ j o, ops[j]? = some o → l.getD j true = true → ∀ e ∈ o.after, Region.binds md e = true → l.getD e.on false = true
theorem closed_set {l : Array Bool} {j : Nat} (h : closedL md ops l) (hj : j ∈ Region.ready md ops l) : closedL md ops (l.setIfInBounds j true) := fun k o hk hl e he hb => by
  by_cases hjk : j = k
  · subst hjk
    obtain ⟨_, o2, ho2, hall⟩ := mem_ready.1 hj
    rw [hk] at ho2
    cases ho2
    exact getD_set_true (hall e he hb)
  · rw [getD_set_ne true hjk] at hl
    exact getD_set_true (h k o hk hl e he hb)
/-- operation k waits for i, in at most n steps -/
def reachB (md : Region.Mode) (ops : Array Oper) : Nat → Nat → Nat → Bool
  | 0, _, _ => false
  | n + 1, k, i => match ops[k]? with
    | some o => o.after.any fun e => Region.binds md e && (decide (e.on = i) || reachB md ops n e.on i)
    | none => false
theorem reach_not {i : Nat} {l : Array Bool} (hc : closedL md ops l) (hi : l.getD i true = false) : ∀ (n k : Nat) (o : Oper), reachB md ops n k i = true → ops[k]? = some o → (∀ e ∈ o.after, Region.binds md e = true → l.getD e.on false = true) → False
  | 0, _, _, h, _, _ => by cases h
  | n + 1, k, o, h, ho, hall => by
    unfold reachB at h
    rw [ho] at h
    obtain ⟨e, he, hb⟩ := Array.any_eq_true'.1 h
    rw [Bool.and_eq_true, Bool.or_eq_true] at hb
    have hl := hall e he hb.1
    have key : ∀ m : Nat, l.getD m false = true → l.getD m true = true := fun m hm => by
      rcases Nat.lt_or_ge m l.size with g | g
      · simp [g] at hm ⊢; exact hm
      · simp [Array.getElem?_eq_none g] at hm
    rcases hb.2 with h1 | h1
    · have h2 := of_decide_eq_true h1
      rw [h2] at hl
      rw [key i hl] at hi
      cases hi
    · cases hm : ops[e.on]? with
      | none =>
        cases n with
        | zero => cases h1
        | succ n => unfold reachB at h1; rw [hm] at h1; cases h1
      | some om => exact reach_not hc hi n e.on om h1 hm (hc e.on om hm (key _ hl))
/-- each store waits for operation i -/
def waits (md : Region.Mode) (ops : Array Oper) (st : List Nat) (i : Nat) : Prop := ∀ k ∈ st, k ≠ i ∧ reachB md ops ops.size k i = true
theorem stOff_set {l : Array Bool} {j : Nat} (h : stOff st l) (hj : j ∉ st) : stOff st (l.setIfInBounds j true) := fun k hk => by
  have hne : j ≠ k := fun e => hj (e ▸ hk)
  rw [getD_set_ne true hne]; exact h k hk
theorem wpAnyL_first {i : Nat} {oi : Oper} {v : Value} (hi : ops[i]? = some oi) (hsel : ∀ (j : Nat) (o : Oper) cs b, ops[j]? = some o → o.op ≠ .select cs b)
    (hQ : ∀ c a w, Q (.panic c) (a.put oi.dst v) w → Q (.panic c) a w) (hst : waits md ops st i) :
    ∀ (fuel : Nat) (listed : Array Bool) (a : Act) (w : World),
      (∀ j oj, ops[j]? = some oj → j ≠ i → listed.getD j true = false → (∀ e ∈ oj.after, Region.binds md e = true → e.on ≠ i) → oi.apart ops oj = true) →
      i ∈ Region.ready md ops listed → YieldsIf P ops S oi v a → S w → stOff st listed → closedL md ops listed →
      wpAnyL P md ops Q st S fuel (listed.setIfInBounds i true) (a.put oi.dst v) w → wpAnyL P md ops Q st S (fuel + 1) listed a w := by
  have his : i ∉ st := fun h => (hst i h).1 rfl
  intro fuel
  induction fuel with
  | zero =>
    intro listed a w _ hr hy hS hO hCl H
    refine ⟨fun h => (by rw [h] at hr; cases hr), fun j hj => ?_⟩
    by_cases hji : j = i
    · subst hji; exact hy.wpOp hi hS ⟨fun _ => hS, H⟩
    · have := ready_mono hj hji
      rw [H.1] at this
      cases this
  | succ fuel ih =>
    intro listed a w hfree hr hy hS hO hCl H
    refine ⟨fun h => (by rw [h] at hr; cases hr), fun j hj => ?_⟩
    by_cases hji : j = i
    · subst hji; exact hy.wpOp hi hS ⟨fun _ => hS, H⟩
    · have h1 := H.2 j (ready_mono hj hji)
      obtain ⟨hjun, oj, hoj, hall⟩ := mem_ready.1 hj
      have hnot : ∀ e ∈ oj.after, Region.binds md e = true → e.on ≠ i := fun e he hb heq => by
        have h1 := hall e he hb
        have h0 := (mem_ready.1 hr).1
        rw [heq] at h1
        rcases Nat.lt_or_ge i listed.size with h' | h'
        · simp [h'] at h0 h1; rw [h0] at h1; cases h1
        · simp [Array.getElem?_eq_none h'] at h1
      have hjs : j ∉ st := fun hm => reach_not hCl (mem_ready.1 hr).1 _ j oj (hst j hm).2 hoj hall
      have hO1 := stOff_set hO hjs
      have hO2 := stOff_set (stOff_set hO his) hjs
      have h2 := wpOp_putIf hoj (hfree j oj hoj hji hjun hnot) (fun cs b => hsel i oi cs b hi) (fun cs b => hsel j oj cs b hoj) hQ hy h1
      have hfree' : ∀ k ok, ops[k]? = some ok → k ≠ i → (listed.setIfInBounds j true).getD k true = false →
          (∀ e ∈ ok.after, Region.binds md e = true → e.on ≠ i) → oi.apart ops ok = true := fun k ok hk hki hun hno => by
        refine hfree k ok hk hki ?_ hno
        by_cases hjk : j = k
        · subst hjk; exact hjun
        · rw [getD_set_ne true hjk] at hun; exact hun
      refine wpOp_mono (fun a' w' h3 => ⟨fun _ => h3.2.1 hO2, ih (listed.setIfInBounds j true) a' w' hfree' (ready_mono hr (Ne.symm hji)) h3.1 (h3.2.1 hO2) hO1 (closed_set hCl hj) ?_⟩) h2
      rw [Array.setIfInBounds_comm _ _ hji]
      exact h3.2.2
theorem wpAnyL_done {listed : Array Bool} {a : Act} {w : World} (hr : Region.ready md ops listed = []) (h : Q .normal a w) : ∀ fuel, wpAnyL P md ops Q st S fuel listed a w
  | 0 => ⟨hr, h⟩
  | _ + 1 => ⟨fun _ => h, by rw [hr]; simp⟩
def AllReadyL (P : Program) (md : Region.Mode) (ops : Array Oper) (Q : Exit → Act → World → Prop) (st : List Nat) (S : World → Prop) (fuel : Nat) (listed : Array Bool) (a : Act) (w : World) (rs : List Nat) : Prop :=
  ∀ i ∈ rs, wpOp P ops Q i (fun a' w' => (stOff st (listed.setIfInBounds i true) → S w') ∧ wpAnyL P md ops Q st S fuel (listed.setIfInBounds i true) a' w') a w
theorem AllReadyL.nil {fuel : Nat} {listed : Array Bool} {a : Act} {w : World} : AllReadyL P md ops Q st S fuel listed a w [] := fun _ h => by cases h
theorem AllReadyL.cons {fuel : Nat} {listed : Array Bool} {a : Act} {w : World} {i : Nat} {o : Oper} {rs : List Nat} (ho : ops[i]? = some o)
    (h : ∀ K' : Act → World → Prop, Shut (∀ a w, (stOff st (listed.setIfInBounds i true) → S w) → (S w ∨ True → wpAnyL P md ops Q st S fuel (listed.setIfInBounds i true) a w) → K' a w) → if Region.wanted o (yielded ops a.tmps) = true then Oper.wp P o a w K' Q else K' (a.put o.dst undef) w)
    (hs : AllReadyL P md ops Q st S fuel listed a w rs) : AllReadyL P md ops Q st S fuel listed a w (i :: rs) := fun j hj => by
  rcases List.mem_cons.1 hj with rfl | hj
  · exact wpOp_step ho (fun K' hK => h K' (fun a w hS hW => hK a w ⟨hS, hW (Or.inr trivial)⟩))
  · exact hs j hj
theorem wpAnyL_ready {rs : List Nat} {fuel : Nat} {listed : Array Bool} {a : Act} {w : World} (hr : Region.ready md ops listed = rs) (hne : rs ≠ [])
    (h : AllReadyL P md ops Q st S fuel listed a w rs) : wpAnyL P md ops Q st S (fuel + 1) listed a w := ⟨fun h0 => absurd (hr ▸ h0) hne, hr ▸ h⟩
theorem wp_region_L {id : Nat} {a : Act} {w : World} (st : List Nat) (hm : P.follows .mixedOrders = true) (hS : S w.drew) (h : S w.drew → wpAnyL P .any ops Q st S ops.size (Array.replicate ops.size false) a w.drew) : (Code.region id ops true).wp P Q a w :=
  wp_region_any hm (wpAny_of_L _ _ _ _ (h hS))
/-- the same as a Bool -/
def waitsB (md : Region.Mode) (ops : Array Oper) (st : List Nat) (i : Nat) : Bool := st.all fun k => decide (k ≠ i) && reachB md ops ops.size k i
theorem waits_spec {i : Nat} (h : waitsB md ops st i = true) : waits md ops st i := fun k hk => by
  have h1 := List.all_eq_true.1 h k hk
  rw [Bool.and_eq_true] at h1
  exact ⟨of_decide_eq_true h1.1, h1.2⟩
def closedB (md : Region.Mode) (ops : Array Oper) (l : Array Bool) : Bool := (List.range ops.size).all fun j => !(l.getD j true) || match ops[j]? with
  | some o => o.after.all fun e => !(Region.binds md e) || l.getD e.on false
  | none => true
theorem closed_spec {l : Array Bool} (h : closedB md ops l = true) : closedL md ops l := fun j o ho hl e he hb => by
  have hj := (Array.getElem?_eq_some_iff.1 ho).1
  have h1 := List.all_eq_true.1 h j (List.mem_range.2 hj)
  rw [hl, ho] at h1
  simp only [Bool.not_true, Bool.false_or] at h1
  have h2 := Array.all_eq_true_iff_forall_mem.1 h1 e he
  rw [hb] at h2
  simpa using h2
theorem held_runsL {fuel : Nat} {w : World} (hs : Region.noSelect ops = true) (hQ : ∀ c a (d : Option Tmp) v w, Q (.panic c) (a.put d v) w → Q (.panic c) a w) (hS : S w) :
    ∀ (l : List Oper) (k : Nat) (listed : Array Bool) (a : Act), (∀ j, j < l.length → l[j]? = ops[k + j]?) → l.all (fun o => plainOp o.op) = true → runB md ops l.length k listed = true → (∀ j, j < l.length → waitsB md ops st (k + j) = true) → stOff st listed → closedL md ops listed →
    wpQuiet P ops S (fun a' => wpAnyL P md ops Q st S fuel (runL l.length k listed) a' w) l a → wpAnyL P md ops Q st S (fuel + l.length) listed a w
  | [], k, listed, a, _, _, _, _, _, _, h => h
  | o :: l, k, listed, a, hl, hp, hB, hW, hO, hCl, h => by
    have h0 : ops[k]? = some o := by simpa using (hl 0 (by simp)).symm
    simp only [List.length_cons, runB, Bool.and_eq_true] at hB
    obtain ⟨⟨hr, hf⟩, hB'⟩ := hB
    simp only [List.all_cons, Bool.and_eq_true] at hp
    have key : ∃ v, YieldsIf P ops S o v a ∧ wpQuiet P ops S (fun a' => wpAnyL P md ops Q st S fuel (runL (o :: l).length k listed) a' w) l (a.put o.dst v) := by
      unfold wpQuiet at h
      by_cases hw : Region.wanted o (yielded ops a.tmps) = true
      · rw [if_pos hw] at h
        obtain ⟨v, hv, hK⟩ := h
        refine ⟨v, .inl ⟨hw, fun w1 h1 => ?_⟩, hK⟩
        have := hv w1 h1
        unfold Oper.quietAt at this
        cases hrun : (execOp a.eval o).run P w1 with
        | ok n w2 =>
          rw [hrun] at this
          obtain ⟨u, rfl⟩ := plain_value hp.1 hrun
          obtain ⟨rfl, rfl⟩ := this
          rfl
        | halt x w2 => rw [hrun] at this; exact this.elim
      · rw [if_neg hw] at h
        exact ⟨undef, .inr ⟨by simpa using hw, rfl⟩, h⟩
    obtain ⟨v, hy, hK⟩ := key
    have hw0 := waits_spec (hW 0 (by simp))
    have hks : k ∉ st := fun hm => (hw0 k hm).1 rfl
    have := held_runsL hs hQ hS l (k + 1) (listed.setIfInBounds k true) (a.put o.dst v) (fun j hj => by have := hl (j + 1) (by simp; omega); simpa [Nat.add_assoc, Nat.add_comm 1 j] using this) hp.2 hB' (fun j hj => by have := hW (j + 1) (by simp; omega); simpa [Nat.add_assoc, Nat.add_comm 1 j] using this) (stOff_set hO hks) (closed_set hCl (by simpa using hr)) hK
    exact wpAnyL_first h0 (Region.noSelect_spec hs) (fun c a w => hQ c a o.dst v w) hw0 (fuel + l.length) listed a w (Region.free_spec h0 hf) (by simpa using hr) hy hS hO hCl this
theorem held_runL {w : World} {L : List Oper} {listed : Array Bool} {a : Act} {f : Nat} (n k fuel : Nat) (hf : f = fuel + n) (hn : k + n ≤ L.length) (hs : Region.noSelect L.toArray = true) (hp : ((L.drop k).take n).all (fun o => plainOp o.op) = true) (hB : runB md L.toArray n k listed = true) (hW : (List.range n).all (fun j => waitsB md L.toArray st (k + j)) = true) (hO : stOffB st listed = true) (hC : closedB md L.toArray listed = true)
    (hQ : ∀ c a (d : Option Tmp) v w, Q (.panic c) (a.put d v) w → Q (.panic c) a w) (hS : S w)
    (h : wpQuiet P L.toArray S (fun a' => wpAnyL P md L.toArray Q st S fuel (runL n k listed) a' w) ((L.drop k).take n) a) : wpAnyL P md L.toArray Q st S f listed a w := by
  subst hf
  have hlen : ((L.drop k).take n).length = n := by simp; omega
  have := held_runsL (md := md) (fuel := fuel) hs hQ hS ((L.drop k).take n) k listed a (fun j hj => by
    rw [hlen] at hj
    simp [List.getElem?_drop, hj]) hp (by rw [hlen]; exact hB) (fun j hj => by rw [hlen] at hj; exact List.all_eq_true.1 hW j (List.mem_range.2 hj)) (stOff_spec hO) (closed_spec hC) (by rw [hlen]; exact h)
  rwa [hlen] at this
/-- the way through a region as a letter -/
theorem wp_dagL {n : Nat} {l : Array Bool} {a : Act} {w : World}
    (h : ∀ F : Nat → Array Bool → Act → World → Prop, Hid (∀ n l a w, wpAnyL P md ops Q st S n l a w → F n l a w) → Hid (∀ n l a w, F n l a w → wpAnyL P md ops Q st S n l a w) → F n l a w) : wpAnyL P md ops Q st S n l a w :=
  h (wpAnyL P md ops Q st S) (Lib.hid fun _ _ _ _ h => h) (Lib.hid fun _ _ _ _ h => h)
end
end Go.Proofs.Ytibmoibhbgbfoaa
