/- What the walk of PlaneValid wants: planes that came in, results in variables made before or behind the call, equal planes. -/
import Derived.Test.YtpmajophkhihlaaPSlice
namespace Go.Proofs.Ytpmajophkhihlaa
open Go.ChangeShapes Go.WideShapes Go.ChangeAt Go.RowKit
set_option linter.unusedVariables false
set_option linter.unusedSimpArgs false

theorem open_pix {H : Type} {enc : TypeId × Value → H} {W : World} {v : Value} {y : DataW H × List MemPlace} {n : Nat}
    (hf : DataW.trod enc Try.prog W 0 (fun _ => true) true n 22 [v] = some y) : ∃ (xs : List Int) (a0 : Option Addr) (cap : Nat), v = .slice a0 xs.length cap ∧ SliceIs W a0 xs ∧ xs.length ≤ 9223372036854775807 := by
  rcases open_ints Try.underlying22 Try.underlying3 cells3 hf with ⟨hcs, hx⟩ | ⟨a, len', cap', zs, hcs, _, hl, hm, hz, hx, hcell, hwz⟩
  · simp at hcs
    subst hcs
    exact ⟨[], none, 0, rfl, fun k hk => by simp at hk, by simp⟩
  · simp at hcs
    subst hcs
    simp only [if_true] at hz
    have e : len' = (zs.take len').length := by simp; omega
    have hg : ∀ k, k < (zs.take len').length → (zs.take len').getD k 0 = zs.getD k 0 := by
      intro k hk
      have : k < len' := by simp at hk; omega
      simp [List.getD_eq_getElem?_getD, this]
    refine ⟨zs.take len', some a, cap', by rw [← e], fun k hk => ?_, by unfold maxLen at hm; simp; omega⟩
    have hk2 : k < len' := by simp at hk; omega
    obtain ⟨b, off, spot⟩ := a
    have hspot : spot = none := by simpa [Addr.add] using World.cell?_spot (hcell 0 (by omega))
    subst hspot
    refine ⟨b, off, rfl, ?_⟩
    rw [hg k hk, ← add_plain]
    exact hcell k (by omega)
theorem pequal_is {W H M W' H' M' : Int} {L K : List Int} {v : Bool} (h : eqB W H M L W' H' M' K = v) (a b : Option Addr) (cap cap' : Nat) (w : World) (ha : SliceIs w a L) (hb : SliceIs w b K) (hl : L.length ≤ 9223372036854775807) (hk : K.length ≤ 9223372036854775807) :
    Calls Try.prog 15 #[.agg #[.int .i64 W, .int .i64 H, .int .i64 M, .slice a L.length cap], .agg #[.int .i64 W', .int .i64 H', .int .i64 M', .slice b K.length cap']] w (TestPost v w) := h ▸ pequal_any W H M W' H' M' L K a b cap cap' w ha hb hl hk
theorem requal_is {W H M W' H' M' : Int} {L K : List Int} {v : Bool} (h : eqB W H M L W' H' M' K = v) (a b : Option Addr) (cap cap' : Nat) (w : World) (ha : SliceIs w a L) (hb : SliceIs w b K) (hl : L.length ≤ 9223372036854775807) (hk : K.length ≤ 9223372036854775807) :
    Calls Try.prog 21 #[.agg #[.int .i64 W, .int .i64 H, .int .i64 M, .slice a L.length cap], .agg #[.int .i64 W', .int .i64 H', .int .i64 M', .slice b K.length cap']] w (TestPost v w) := h ▸ requal_any W H M W' H' M' L K a b cap cap' w ha hb hl hk
/-- a plane and a test came back: also where its pixels lie -/
theorem post_far {W H M : Int} {o : Option (List Int)} {w : World} {e : Ending} {w' : World} {X Y Z : Int} {K : List Int} {v : Bool} (h : PlanePost W H M o w e w') (hX : orZ W o = X) (hY : orZ H o = Y) (hZ : orZ M o = Z) (hK : o.getD [] = K) (hv : o.isSome = v) :
    ∃ a cap, e = .returned (.tuple #[.agg #[.int .i64 X, .int .i64 Y, .int .i64 Z, .slice a K.length cap], .bool v]) ∧ SliceIs w' a K ∧ Below w.heap.size w w' ∧ (∀ b o, a = some ⟨b, o, none⟩ → w.heap.size ≤ b) := by
  subst hX; subst hY; subst hZ; subst hK; subst hv
  rcases o with _ | L
  · obtain ⟨he, hb⟩ := post_none h rfl
    exact ⟨none, 0, he, fun k hk => by simp at hk, hb, fun b o e => by cases e⟩
  · obtain ⟨g, cap, he, hp, hb⟩ := post_some h rfl
    exact ⟨_, cap, he, hp.isS, hb, fun b o e => by simp at e; have := hp.lt; omega⟩
/-- a result in a variable that was made before or behind the call -/
structure VarIs (wx : World) (b : Nat) (v0 v1 v2 v3 : Value) (sl : Option Addr) (K : List Int) (wf : World) : Prop where
  below : Below wx.heap.size wx wf
  box : Box4 wf b v0 v1 v2 v3
  isl : SliceIs wf sl K
theorem VarIs.behind {wx w5 : World} {v0 v1 v2 v3 : Value} {sl : Option Addr} {K : List Int} {t : TypeId} (hb : Below wx.heap.size wx w5) (hs : SliceIs w5 sl K) : VarIs wx w5.heap.size v0 v1 v2 v3 sl K (w5.alloc (.cells #[v0, v1, v2, v3] t)) :=
  ⟨balloc hb _, Box4.of (heap_alloc_new w5 _), is_below hs (balloc (bref _) _)⟩
theorem VarIs.before {wx w5 : World} {v0 v1 v2 v3 : Value} {sl : Option Addr} {K : List Int} {o : Obj} (ho : ∀ w : World, Open4 (w.alloc o) w.heap.size) (hb : Below (wx.alloc o).heap.size (wx.alloc o) w5) (hs : SliceIs w5 sl K) (hf : ∀ b o', sl = some ⟨b, o', none⟩ → (wx.alloc o).heap.size ≤ b) : VarIs wx wx.heap.size v0 v1 v2 v3 sl K (put4 w5 wx.heap.size v0 v1 v2 v3) :=
  ⟨bput4 (bthen (balloc (bref wx) o) hb) (Nat.le_refl _) _ _ _ _, box4_put ((ho wx).below hb) _ _ _ _, is_grown hs (gput4 (gref w5 (some wx.heap.size)) (.inr rfl) _ _ _ _) (fun b o' e => by have := hf b o' e; simp at this; simp; omega)⟩
theorem Box4.below {w w' : World} {b : Nat} {v0 v1 v2 v3 : Value} (h : Box4 w b v0 v1 v2 v3) (hb : Below w.heap.size w w') : Box4 w' b v0 v1 v2 v3 := h.grown (bgrown hb none) (by simp)
/-- three boxes and two slices that are read, and hidden all the rest -/
abbrev VS (W : World) (p : Nat) (a : Option Addr) (cap : Nat) (xs : List Int) (l : List Th) (s1 : Option Addr) (K1 : List Int) (s2 : Option Addr) (K2 : List Int) (s3 : Option Addr) (K3 : List Int) (b1 : Nat) (t0 t1 t2 t3 : Value) (b2 : Nat) (u0 u1 u2 u3 : Value) (b3 : Nat) (v0 v1 v2 v3 : Value) (w' : World) : Prop :=
  Hid (St W p a cap xs l w' ∧ SliceIs w' s1 K1 ∧ SliceIs w' s2 K2 ∧ SliceIs w' s3 K3) ∧ C4 w' b1 t0 t1 t2 t3 ∧ C4 w' b2 u0 u1 u2 u3 ∧ C4 w' b3 v0 v1 v2 v3
theorem c4_below {w w' : World} {b : Nat} {v0 v1 v2 v3 : Value} (hb : Below w.heap.size w w') (h : C4 w b v0 v1 v2 v3) : C4 w' b v0 v1 v2 v3 := ⟨bkeep hb h.1, bkeep hb h.2.1, bkeep hb h.2.2.1, bkeep hb h.2.2.2⟩
theorem vs_below {W : World} {p : Nat} {a : Option Addr} {cap : Nat} {xs : List Int} {l : List Th} {s1 : Option Addr} {K1 : List Int} {s2 : Option Addr} {K2 : List Int} {s3 : Option Addr} {K3 : List Int} {b1 : Nat} {t0 t1 t2 t3 : Value} {b2 : Nat} {u0 u1 u2 u3 : Value} {b3 : Nat} {v0 v1 v2 v3 : Value} {w w' : World} (hb : Below w.heap.size w w')
    (h : VS W p a cap xs l s1 K1 s2 K2 s3 K3 b1 t0 t1 t2 t3 b2 u0 u1 u2 u3 b3 v0 v1 v2 v3 w) : VS W p a cap xs l s1 K1 s2 K2 s3 K3 b1 t0 t1 t2 t3 b2 u0 u1 u2 u3 b3 v0 v1 v2 v3 w' :=
  ⟨Lib.hid ⟨h.1.out.1.call hb, is_below h.1.out.2.1 hb, is_below h.1.out.2.2.1 hb, is_below h.1.out.2.2.2 hb⟩, c4_below hb h.2.1, c4_below hb h.2.2.1, c4_below hb h.2.2.2⟩
theorem newO_len {W H M : Int} : ((newO W H M).getD []).length ≤ 4096 := by
  unfold newO
  split
  · rename_i h; have := (sizeB_t.1 h).2.2.1; simp; omega
  · simp
/-- while a plane is made behind a list's number: that number is read -/
abbrev NS (wx : World) (g k : Nat) (v : Int) (w' : World) : Prop := Hid (Below wx.heap.size wx w') ∧ w'.cell? ⟨g, k, none⟩ = some (.int .i64 v)
theorem ns_of {wx w' : World} {g k : Nat} {v : Int} (hc : wx.cell? ⟨g, k, none⟩ = some (.int .i64 v)) (hb : Below wx.heap.size wx w') : NS wx g k v w' := ⟨Lib.hid hb, bkeep hb hc⟩
/-- the chapter's boxes at the end: the plane that came in -/
abbrev PS (W : World) (p : Nat) (a : Option Addr) (cap : Nat) (xs : List Int) (l : List Th) (s1 : Option Addr) (K1 : List Int) (b1 : Nat) (t0 t1 t2 t3 : Value) (w' : World) : Prop := Hid (St W p a cap xs l w' ∧ SliceIs w' s1 K1) ∧ C4 w' b1 t0 t1 t2 t3
theorem ps_below {W : World} {p : Nat} {a : Option Addr} {cap : Nat} {xs : List Int} {l : List Th} {s1 : Option Addr} {K1 : List Int} {b1 : Nat} {t0 t1 t2 t3 : Value} {w w' : World} (hb : Below w.heap.size w w') (h : PS W p a cap xs l s1 K1 b1 t0 t1 t2 t3 w) : PS W p a cap xs l s1 K1 b1 t0 t1 t2 t3 w' :=
  ⟨Lib.hid ⟨h.1.out.1.call hb, is_below h.1.out.2 hb⟩, c4_below hb h.2⟩
end Go.Proofs.Ytpmajophkhihlaa
