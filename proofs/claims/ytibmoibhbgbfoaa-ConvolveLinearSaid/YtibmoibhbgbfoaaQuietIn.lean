/- A region that draws its order, whose operations and callees yield one value each in every world of which S holds, and leave a world of which S holds: one walk, in the order of the text, serves every order. A region that draws its order: a run of operations that only read is taken first, in the order of the text, by the cheap walk; what is not such is carried out by hand. -/
import Derived.Test.YtibmoibhbgbfoaaBase
import Derived.Deep.QuietTactic
import Derived.BigQuiet
import Derived.Deep.RegionHeld3
namespace Go.Proofs.Ytibmoibhbgbfoaa
open Go.ChangeShapes Go.WideShapes Go.ChangeAt Go.RowKit
set_option linter.unusedVariables false
set_option linter.unusedSimpArgs false

/-- a world of which S holds -/
structure In (S : World → Prop) where
  w : World
  h : S w
/-- one walk serves every order: the class of the worlds of which S holds -/
theorem wp_region_in {P : Program} {S : World → Prop} {id : Nat} {Q : Exit → Act → World → Prop} {a : Act} {w : World} {l : List Oper} (hm : P.follows .mixedOrders = true) (hB : Region.lexB .any l.toArray = true) (hS : S w.drew)
    (h : wpQuiet P l.toArray (fun w' => ∃ s : In S, w' = s.w) (fun a' => ∀ w', (∃ s : In S, w' = s.w) → Q .normal a' w') l a) : (Code.region id l.toArray true).wp P Q a w :=
  wp_region_quiet (C := fun w' => ∃ s : In S, w' = s.w) hm hB ⟨⟨_, hS⟩, rfl⟩ (by simpa using h)
/-- a callee that leaves the world as it is -/
theorem in_same {P : Program} {S : World → Prop} {f : FuncId} {args : Array Value} {v : Value} (s : In S) (h : Calls P f args s.w fun e w' => e = .returned v ∧ s.w = w') : Calls P f args s.w fun e w'' => e = .returned v ∧ ∃ s' : In S, w'' = s'.w :=
  h.mono fun _ _ ⟨he, hw⟩ => ⟨he, s, hw.symm⟩
/-- a callee that makes new blocks at most -/
theorem in_below {P : Program} {S : World → Prop} {f : FuncId} {args : Array Value} {v : Value} (s : In S) (keep : ∀ {a b : World}, Below a.heap.size a b → S a → S b) (h : Calls P f args s.w fun e w' => e = .returned v ∧ Below s.w.heap.size s.w w') : Calls P f args s.w fun e w'' => e = .returned v ∧ ∃ s' : In S, w'' = s'.w :=
  h.mono fun _ w' ⟨he, hb⟩ => ⟨he, ⟨w', keep hb s.h⟩, rfl⟩
open Go.ChangeShapes Go.WideShapes Go.ChangeAt Go.RowKit
set_option linter.unusedVariables false
set_option linter.unusedSimpArgs false

/-- operations that yield a value or stop -/
def plainOp : Op → Bool
  | .move _ => true
  | .assign _ => true
  | .pick .. => true
  | .load .. => true
  | .binOp .. => true
  | .unOp .. => true
  | .fieldAddr .. => true
  | .field .. => true
  | .indexAddr .. => true
  | .index .. => true
  | .extract .. => true
  | .slice .. => true
  | .convert .. => true
  | .build .. => true
  | .call c => match c.callee with
    | .builtin .len => true
    | .builtin .cap => true
    | _ => false
  | _ => false
theorem val_by {P : Program} {α : Type} {s : Sem α} {g : α → Value} {w w' : World} {n : Next} (h : Sem.run P (s >>= fun x => pure (Next.value (g x))) w = .ok n w') : ∃ u, n = .value u := by
  rw [show (s >>= fun x => (pure (Next.value (g x)) : Sem Next)) = s.bind (fun x => Sem.pure (Next.value (g x))) from rfl, Sem.run_bind'] at h
  generalize s.run P w = r at h
  cases r with
  | ok a w1 =>
    simp only [Sem.run] at h
    cases h
    exact ⟨_, rfl⟩
  | halt x w1 => cases h
theorem val_of {P : Program} {s : Sem Value} {w w' : World} {n : Next} (h : Sem.run P (s >>= fun x => pure (Next.value x)) w = .ok n w') : ∃ u, n = .value u := val_by (g := id) h
theorem plain_value {o : Oper} (h : plainOp o.op = true) {ρ : Operand → Value} {P : Program} {w w' : World} {n : Next} (e : (execOp ρ o).run P w = .ok n w') : ∃ u, n = .value u := by
  unfold execOp at e
  cases ho : o.op
  case move x => rw [ho] at e; cases e; exact ⟨_, rfl⟩
  case assign x => rw [ho] at e; cases e; exact ⟨_, rfl⟩
  case pick c a b => rw [ho] at e; exact val_by (g := fun (x : Bool) => if x = true then ρ a else ρ b) e
  case load t a => rw [ho] at e; exact val_of e
  case binOp op x y z t => rw [ho] at e; exact val_of e
  case unOp op t x => rw [ho] at e; exact val_of e
  case fieldAddr s x f => rw [ho] at e; exact val_of e
  case field s x f => rw [ho] at e; exact val_of e
  case indexAddr s x f => rw [ho] at e; exact val_of e
  case index s x f => rw [ho] at e; exact val_of e
  case extract s x => rw [ho] at e; exact val_of e
  case slice t x lo hi mx => rw [ho] at e; exact val_of e
  case convert a b c => rw [ho] at e; exact val_of e
  case build t p => rw [ho] at e; exact val_of e
  case call c =>
    rw [ho] at e h
    obtain ⟨cal, ars, ts⟩ := c
    cases cal with
    | builtin b =>
      cases b
      case len => exact val_of e
      case cap => exact val_of e
      all_goals cases h
    | invoke r m => cases h
    | value f => cases h
  all_goals (rw [ho] at h; cases h)
/-- the first n operations from number k on: each may come up at its turn, and nobody who could come before it touches its temporaries -/
def runB (md : Region.Mode) (ops : Array Oper) : Nat → Nat → Array Bool → Bool
  | 0, _, _ => true
  | n + 1, k, listed => (Region.ready md ops listed).contains k && Region.free md ops listed k && runB md ops n (k + 1) (listed.setIfInBounds k true)
/-- what has come up behind them -/
def runL : Nat → Nat → Array Bool → Array Bool
  | 0, _, listed => listed
  | n + 1, k, listed => runL n (k + 1) (listed.setIfInBounds k true)
theorem held_runs {P : Program} {md : Region.Mode} {ops : Array Oper} {Q : Exit → Act → World → Prop} {S : World → Prop} {fuel : Nat} {w : World} (hs : Region.noSelect ops = true) (hQ : ∀ c a (d : Option Tmp) v w, Q (.panic c) (a.put d v) w → Q (.panic c) a w) (hS : S w) :
    ∀ (l : List Oper) (k : Nat) (listed : Array Bool) (a : Act), (∀ j, j < l.length → l[j]? = ops[k + j]?) → l.all (fun o => plainOp o.op) = true → runB md ops l.length k listed = true →
    wpQuiet P ops S (fun a' => wpAnyH P md ops Q S fuel (runL l.length k listed) a' w) l a → wpAnyH P md ops Q S (fuel + l.length) listed a w
  | [], k, listed, a, _, _, _, h => h
  | o :: l, k, listed, a, hl, hp, hB, h => by
    have h0 : ops[k]? = some o := by simpa using (hl 0 (by simp)).symm
    simp only [List.length_cons, runB, Bool.and_eq_true] at hB
    obtain ⟨⟨hr, hf⟩, hB'⟩ := hB
    simp only [List.all_cons, Bool.and_eq_true] at hp
    have key : ∃ v, YieldsIf P ops S o v a ∧ wpQuiet P ops S (fun a' => wpAnyH P md ops Q S fuel (runL (o :: l).length k listed) a' w) l (a.put o.dst v) := by
      unfold wpQuiet at h
      by_cases hw : Region.wanted o (yielded ops a.tmps) = true
      · rw [if_pos hw] at h
        obtain ⟨v, hv, hK⟩ := h
        refine ⟨v, .inl ⟨hw, fun w1 h1 => ?_⟩, hK⟩
        have := hv w1 h1
        unfold Oper.quietAt at this
        cases hrun : (execOp a.eval o).run P w1 with
        | ok n w2 =>
          rw [hrun] at this
          obtain ⟨u, rfl⟩ := plain_value hp.1 hrun
          obtain ⟨rfl, rfl⟩ := this
          rfl
        | halt x w2 => rw [hrun] at this; exact this.elim
      · rw [if_neg hw] at h
        exact ⟨undef, .inr ⟨by simpa using hw, rfl⟩, h⟩
    obtain ⟨v, hy, hK⟩ := key
    have := held_runs hs hQ hS l (k + 1) (listed.setIfInBounds k true) (a.put o.dst v) (fun j hj => by have := hl (j + 1) (by simp; omega); simpa [Nat.add_assoc, Nat.add_comm 1 j] using this) hp.2 hB' hK
    exact wpAnyH_take (i := k) (fuel := fuel + l.length) h0 hs hf hr (fun c a w => hQ c a o.dst v w) hy hS this
/-- the same for a region that is written out: n operations from number k on -/
theorem held_run {P : Program} {md : Region.Mode} {L : List Oper} {Q : Exit → Act → World → Prop} {S : World → Prop} {w : World} {listed : Array Bool} {a : Act} {f : Nat} (n k fuel : Nat) (hf : f = fuel + n) (hn : k + n ≤ L.length) (hs : Region.noSelect L.toArray = true) (hp : ((L.drop k).take n).all (fun o => plainOp o.op) = true) (hB : runB md L.toArray n k listed = true)
    (hQ : ∀ c a (d : Option Tmp) v w, Q (.panic c) (a.put d v) w → Q (.panic c) a w) (hS : S w)
    (h : wpQuiet P L.toArray S (fun a' => wpAnyH P md L.toArray Q S fuel (runL n k listed) a' w) ((L.drop k).take n) a) : wpAnyH P md L.toArray Q S f listed a w := by
  subst hf
  have hlen : ((L.drop k).take n).length = n := by simp; omega
  have := held_runs (md := md) (fuel := fuel) hs hQ hS ((L.drop k).take n) k listed a (fun j hj => by
    rw [hlen] at hj
    simp [List.getElem?_drop, hj]) hp (by rw [hlen]; exact hB) (by rw [hlen]; exact h)
  rwa [hlen] at this
/-- a draw ahead does not matter -/
theorem undrew {w w' : World} (h : Below w.drew.heap.size w.drew w') : Below w.heap.size w w' := ⟨h.os, h.tape, h.output, h.size, h.block⟩
end Go.Proofs.Ytibmoibhbgbfoaa
