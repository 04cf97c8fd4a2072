/- A list of lists of numbers of 64 bits in a block of its own; two growing lists beside a tape; small tables of quantized weights. -/
import Derived.Test.YtjmdpebocchdhaaDoorTMakeKit
import Derived.Test.YtjmdpebocchdhaaDoorFThird
import Derived.Test.YtjmdpebocchdhaaDoorOwn
import Derived.Test.YtjmdpebocchdhaaDoorWeights
namespace Go.Proofs.YtjmdpebocchdhaaDoor
open Go.ChangeShapes Go.WideShapes Go.ChangeAt Go.RowKit
set_option linter.unusedVariables false
set_option linter.unusedSimpArgs false

def Uv.val (u : Uv) : Value := .slice u.ad u.L.length u.cap
def rowU (U : List Uv) : List Value := U.map Uv.val
theorem rowU_add (U : List Uv) (u : Uv) : rowU (U ++ [u]) = rowU U ++ [u.val] := by simp [rowU]
theorem isu_grow {w w' : World} {row : Option Nat} {a : Option Addr} {L : List Int} (h : SliceU w a L) (hg : w.grownBy w' row) (hne : ∀ b o s, a = some ⟨b, o, s⟩ → row ≠ some b) : SliceU w' a L := by
  intro k hk
  obtain ⟨b, off, rfl, hc⟩ := h k hk
  exact ⟨b, off, rfl, hg.cell hc (fun e => hne b off none rfl e.symm)⟩
def InnerU (base : Nat) (w : World) (own : Option Nat) (U : List Uv) : Prop := ∀ u ∈ U, SliceU w u.ad u.L ∧ ∀ b o s, u.ad = some ⟨b, o, s⟩ → base ≤ b ∧ own ≠ some b ∧ b < w.heap.size
/-- lists in a block of their own, made since 'base' -/
def OwnU (base : Nat) (w : World) (v : Value) (U : List Uv) : Prop := w.ownsRow base 42 1 v U.length (rowU U) ∧ InnerU base w v.ownBlock U
theorem OwnU.nil (base : Nat) (w : World) : OwnU base w (.slice none 0 0) [] := ⟨World.ownsRow_nil _ _ _ _, fun u hu => by simp at hu⟩
theorem OwnU.below {base : Nat} {w w' : World} {v : Value} {U : List Uv} (h : OwnU base w v U) (hb : Below w.heap.size w w') : OwnU base w' v U :=
  ⟨own_below h.1 hb, fun u hu => ⟨isu_below (h.2 u hu).1 hb, fun b o s e => ⟨((h.2 u hu).2 b o s e).1, ((h.2 u hu).2 b o s e).2.1, bmore hb ((h.2 u hu).2 b o s e).2.2⟩⟩⟩
theorem OwnU.lt {base : Nat} {w : World} {v : Value} {U : List Uv} (h : OwnU base w v U) {g : Nat} (e : v.ownBlock = some g) : base ≤ g ∧ g < w.heap.size := World.ownsRow.lt h.1 g e
/-- a block that is none of theirs has changed -/
theorem OwnU.kept {base : Nat} {w w' : World} {v : Value} {U : List Uv} {row : Option Nat} (h : OwnU base w v U) (hg : w.grownBy w' row) (h1 : ∀ g, v.ownBlock = some g → row ≠ some g) (h2 : ∀ u ∈ U, ∀ b o s, u.ad = some ⟨b, o, s⟩ → row ≠ some b) : OwnU base w' v U := by
  refine ⟨World.ownsRow.kept h.1 hg ?_, fun u hu => ?_⟩
  · cases e : v.ownBlock with
    | none => exact .inl rfl
    | some g => exact .inr (fun e2 => h1 g e e2.symm)
  · obtain ⟨k1, k2⟩ := h.2 u hu
    exact ⟨isu_grow k1 hg (h2 u hu), fun b o s e => ⟨(k2 b o s e).1, (k2 b o s e).2.1, Nat.lt_of_lt_of_le (k2 b o s e).2.2 hg.size⟩⟩
theorem OwnU.app {base : Nat} {w w' : World} {v v' : Value} {U : List Uv} {u : Uv} {g : Nat} (h : OwnU base w v U) (ho : w'.ownsRow base 42 1 v' (U.length + 1) (rowU U ++ [u.val])) (hg : w.grownBy w' v.ownBlock) (hat : v.ownBlock = some g ∨ g = w.heap.size) (hv : v'.ownBlock = some g)
    (ht : SliceU w u.ad u.L) (hn : ∀ b o s, u.ad = some ⟨b, o, s⟩ → base ≤ b ∧ v.ownBlock ≠ some b ∧ b < w.heap.size) : OwnU base w' v' (U ++ [u]) := by
  refine ⟨by rw [List.length_append, rowU_add]; exact ho, fun x hx => ?_⟩
  have key : ∀ x : Uv, (SliceU w x.ad x.L ∧ ∀ b o s, x.ad = some ⟨b, o, s⟩ → base ≤ b ∧ v.ownBlock ≠ some b ∧ b < w.heap.size) → SliceU w' x.ad x.L ∧ ∀ b o s, x.ad = some ⟨b, o, s⟩ → base ≤ b ∧ v'.ownBlock ≠ some b ∧ b < w'.heap.size := by
    rintro x ⟨h1, h2⟩
    refine ⟨isu_grow h1 hg (fun b o s e => (h2 b o s e).2.1), fun b o s e => ⟨(h2 b o s e).1, ?_, Nat.lt_of_lt_of_le (h2 b o s e).2.2 hg.size⟩⟩
    obtain ⟨_, h3, h4⟩ := h2 b o s e
    rw [hv]
    intro e2
    have e3 := Option.some.inj e2
    rcases hat with h5 | h5
    · exact h3 (by rw [h5, e3])
    · omega
  rcases List.mem_append.1 hx with h1 | h1
  · exact key x (h.2 x h1)
  · rw [List.mem_singleton] at h1; subst h1; exact key x ⟨ht, hn⟩
theorem OwnU.lists {base : Nat} {w : World} {v : Value} {U : List Uv} (h : OwnU base w v U) : ∃ a cap, v = .slice a U.length cap ∧ ListsIs w a U := by
  rcases h.1.2 with ⟨rfl, hn⟩ | ⟨g, cap, cur, rfl, _⟩
  · exact ⟨none, 0, by rw [hn], fun k hk => by omega⟩
  · refine ⟨_, cap, rfl, fun k hk => ⟨g, 0, rfl, ?_, ?_⟩⟩
    · have := World.ownsRow.cellAt h.1 k (by omega)
      rw [Nat.zero_add, this]
      unfold rowU
      rw [List.getElem?_map, List.getD_eq_getElem?_getD, List.getElem?_eq_getElem hk]; rfl
    · refine (h.2 (U.getD k uv0) ?_).1
      rw [List.getD_eq_getElem?_getD, List.getElem?_eq_getElem hk]; exact List.getElem_mem _
theorem infoU : (Tryd.prog.info? 42).map (fun i => (i.zero, i.size, i.bytes)) = some (some (.slice none 0 0), 1, 24) := by kernel_rfl
/-- two lists that grow beside a tape -/
structure QAt (W : World) (p : Nat) (a : Option Addr) (cap : Nat) (xs : List Int) (base : Nat) (xv : Value) (X : List Int) (yv : Value) (U : List Uv) (wr : World) : Prop where
  tape : TapeSome W wr p a cap xs
  lo : p < base
  lw : W.heap.size ≤ base
  hi : base ≤ wr.heap.size
  x : OwnL base wr xv X
  y : OwnU base wr yv U
  ap : ∀ g, xv.ownBlock = some g → yv.ownBlock ≠ some g ∧ ∀ u ∈ U, ∀ b o s, u.ad = some ⟨b, o, s⟩ → b ≠ g
theorem QAt.call {W : World} {p : Nat} {a : Option Addr} {cap : Nat} {xs : List Int} {base : Nat} {xv yv : Value} {X : List Int} {U : List Uv} {wr w' : World} (h : QAt W p a cap xs base xv X yv U wr) (hT : TapeSome W w' p a cap xs) (hg : wr.grownBy w' (some p)) : QAt W p a cap xs base xv X yv U w' := by
  have hp := h.lo
  exact ⟨hT, h.lo, h.lw, Nat.le_trans h.hi hg.size, own_far h.x hg h.lo, h.y.kept hg (fun g e e2 => by have := (h.y.lt e).1; have := Option.some.inj e2; omega) (fun u hu b o s e e2 => by have := ((h.y.2 u hu).2 b o s e).1; have := Option.some.inj e2; omega), h.ap⟩
theorem QAt.below {W : World} {p : Nat} {a : Option Addr} {cap : Nat} {xs : List Int} {base : Nat} {xv yv : Value} {X : List Int} {U : List Uv} {wr w' : World} (h : QAt W p a cap xs base xv X yv U wr) (hb : Below wr.heap.size wr w') : QAt W p a cap xs base xv X yv U w' :=
  ⟨⟨h.tape.choose, h.tape.choose_spec.more hb⟩, h.lo, h.lw, Nat.le_trans h.hi hb.size, h.x.below hb, h.y.below hb, h.ap⟩
theorem QAt.appX {W : World} {p : Nat} {a : Option Addr} {cap : Nat} {xs : List Int} {base : Nat} {xv xv' yv : Value} {X : List Int} {U : List Uv} {wr w' : World} {m : Int} {g : Nat} (h : QAt W p a cap xs base xv X yv U wr)
    (ho : w'.ownsRow base 3 1 xv' (X.length + 1) (ints X ++ [.int .i64 m])) (hg : wr.grownBy w' xv.ownBlock) (hat : xv.ownBlock = some g ∨ g = wr.heap.size) (hv : xv'.ownBlock = some g) : QAt W p a cap xs base xv' (X ++ [m]) yv U w' := by
  have hp := h.lo
  have hw := h.lw
  refine ⟨⟨h.tape.choose, h.tape.choose_spec.keep hg (fun q e => by have := (h.x.lt e).1; exact ⟨by omega, by omega⟩)⟩, h.lo, h.lw, Nat.le_trans h.hi hg.size, OwnL.more ho, h.y.kept hg (fun q e e2 => (h.ap q e2).1 e) (fun u hu b o s e e2 => (h.ap b e2).2 u hu b o s e rfl), fun q e => ?_⟩
  rw [hv] at e
  have e3 := Option.some.inj e
  subst e3
  rcases hat with h5 | h5
  · exact h.ap g h5
  · subst h5
    exact ⟨fun e2 => by have := (h.y.lt e2).2; omega, fun u hu b o s e2 e4 => by have := ((h.y.2 u hu).2 b o s e2).2.2; omega⟩
theorem QAt.appY {W : World} {p : Nat} {a : Option Addr} {cap : Nat} {xs : List Int} {base : Nat} {xv yv yv' : Value} {X : List Int} {U : List Uv} {wr w' : World} {u : Uv} {g : Nat} (h : QAt W p a cap xs base xv X yv U wr)
    (ho : w'.ownsRow base 42 1 yv' (U.length + 1) (rowU U ++ [u.val])) (hg : wr.grownBy w' yv.ownBlock) (hat : yv.ownBlock = some g ∨ g = wr.heap.size) (hv : yv'.ownBlock = some g)
    (ht : SliceU wr u.ad u.L) (hn : ∀ b o s, u.ad = some ⟨b, o, s⟩ → base ≤ b ∧ yv.ownBlock ≠ some b ∧ b < wr.heap.size) (hx : ∀ b o s, u.ad = some ⟨b, o, s⟩ → xv.ownBlock ≠ some b) : QAt W p a cap xs base xv X yv' (U ++ [u]) w' := by
  have hp := h.lo
  have hw := h.lw
  refine ⟨⟨h.tape.choose, h.tape.choose_spec.keep hg (fun q e => by have := (h.y.lt e).1; exact ⟨by omega, by omega⟩)⟩, h.lo, h.lw, Nat.le_trans h.hi hg.size, World.ownsRow.kept h.x hg ?_, h.y.app ho hg hat hv ht hn, fun q e => ⟨?_, fun z hz b o s e2 e3 => ?_⟩⟩
  · cases e : xv.ownBlock with
    | none => exact .inl rfl
    | some q => exact .inr (fun e2 => (h.ap q e).1 e2.symm)
  · rw [hv]
    intro e2
    have e3 := Option.some.inj e2
    subst e3
    rcases hat with h5 | h5
    · exact (h.ap g e).1 h5
    · have := (h.x.lt e).2; omega
  · rcases List.mem_append.1 hz with h6 | h6
    · exact (h.ap q e).2 z h6 b o s e2 e3
    · rw [List.mem_singleton] at h6; subst h6; subst e3; exact hx b o s e2 e
theorem quant_short {s : Int} {L : List Int} (h : quantC s L = 0) : (quantL s L).length ≤ 8 := by
  unfold quantL
  rw [if_pos h, List.length_set, outs_len]
  unfold quantC at h
  split at h
  · omega
  · split at h
    · omega
    · omega
theorem errQ_in {s : Int} : ∀ {P : List (Int × List Int)}, errQ s P = 0 → ∀ p ∈ P, pairE s p = 0
  | [], _, p, hp => by simp at hp
  | q :: r, h, p, hp => by
    unfold errQ at h
    by_cases g : pairE s q = 0
    · rw [if_pos g] at h
      rcases List.mem_cons.1 hp with rfl | hp
      · exact g
      · exact errQ_in h p hp
    · rw [if_neg g] at h; exact absurd h g
theorem qt_small (fs : List Int) (K : List (List Int)) (s : Int) : SmallT (qtT fs K s) := by
  unfold qtT
  by_cases h : qtC fs K s = 0
  · rw [if_pos h]
    unfold qtC at h
    by_cases g : fs.length ≠ K.length ∨ sideT K.length = false
    · rw [if_pos g] at h; omega
    · rw [if_neg g] at h
      have g2 : sideT K.length = true := by
        cases e : sideT K.length
        · exact absurd (.inr e) g
        · rfl
      have g3 := sideT_t.1 g2
      refine ⟨by unfold pairs; rw [List.length_map, List.length_zip]; omega, fun t ht => ?_⟩
      obtain ⟨p, hp, rfl⟩ := List.mem_map.1 ht
      have := errQ_in h p hp
      unfold pairE at this
      by_cases g4 : firstT p.1 = false
      · rw [if_pos g4] at this; omega
      · rw [if_neg g4] at this
        exact quant_short this
  · rw [if_neg h]; exact small_nil
theorem rtquant_l (fs : List Int) (U : List Uv) (s : Int) (a b : Option Addr) (cap cap' l l' : Nat) (w : World) (hfs : SliceIs w a fs) (hU : ListsIs w b U) (hF : FitsLists U) (el : fs.length = l) (el' : U.length = l') :
    Calls Tryd.prog 24 #[.slice a l cap, .slice b l' cap', .int .i64 s] w (TabPost (qtT fs (U.map Uv.L) s) (qtC fs (U.map Uv.L) s) w) := by
  subst el; subst el'; exact rtquant_any fs U s a b cap cap' w hfs hU hF
theorem fits_more {U : List Uv} {u : Uv} (h : FitsLists U) (hu : FitsU u.L) : FitsLists (U ++ [u]) := by
  intro k hk
  rw [List.length_append, List.length_singleton] at hk
  rw [List.getD_eq_getElem?_getD]
  by_cases g : k < U.length
  · rw [List.getElem?_append_left g, ← List.getD_eq_getElem?_getD]; exact h k g
  · obtain rfl : k = U.length := by omega
    simpa using hu
end Go.Proofs.YtjmdpebocchdhaaDoor
