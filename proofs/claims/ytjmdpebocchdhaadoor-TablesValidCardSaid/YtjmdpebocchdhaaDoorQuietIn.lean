/- A region that draws its order, whose operations and callees yield one value each in every world of which S holds, and leave a world of which S holds: one walk, in the order of the text, serves every order. -/
import Derived.Test.YtjmdpebocchdhaaDoorBase
import Derived.Deep.QuietTactic
import Derived.BigQuiet
namespace Go.Proofs.YtjmdpebocchdhaaDoor
open Go.ChangeShapes Go.WideShapes Go.ChangeAt Go.RowKit
set_option linter.unusedVariables false
set_option linter.unusedSimpArgs false

/-- a world of which S holds -/
structure In (S : World → Prop) where
  w : World
  h : S w
/-- one walk serves every order: the class of the worlds of which S holds -/
theorem wp_region_in {P : Program} {S : World → Prop} {id : Nat} {Q : Exit → Act → World → Prop} {a : Act} {w : World} {l : List Oper} (hm : P.follows .mixedOrders = true) (hB : Region.lexB .any l.toArray = true) (hS : S w.drew)
    (h : wpQuiet P l.toArray (fun w' => ∃ s : In S, w' = s.w) (fun a' => ∀ w', (∃ s : In S, w' = s.w) → Q .normal a' w') l a) : (Code.region id l.toArray true).wp P Q a w :=
  wp_region_quiet (C := fun w' => ∃ s : In S, w' = s.w) hm hB ⟨⟨_, hS⟩, rfl⟩ (by simpa using h)
/-- a callee that leaves the world as it is -/
theorem in_same {P : Program} {S : World → Prop} {f : FuncId} {args : Array Value} {v : Value} (s : In S) (h : Calls P f args s.w fun e w' => e = .returned v ∧ s.w = w') : Calls P f args s.w fun e w'' => e = .returned v ∧ ∃ s' : In S, w'' = s'.w :=
  h.mono fun _ _ ⟨he, hw⟩ => ⟨he, s, hw.symm⟩
/-- a callee that makes new blocks at most -/
theorem in_below {P : Program} {S : World → Prop} {f : FuncId} {args : Array Value} {v : Value} (s : In S) (keep : ∀ {a b : World}, Below a.heap.size a b → S a → S b) (h : Calls P f args s.w fun e w' => e = .returned v ∧ Below s.w.heap.size s.w w') : Calls P f args s.w fun e w'' => e = .returned v ∧ ∃ s' : In S, w'' = s'.w :=
  h.mono fun _ w' ⟨he, hb⟩ => ⟨he, ⟨w', keep hb s.h⟩, rfl⟩
end Go.Proofs.YtjmdpebocchdhaaDoor
