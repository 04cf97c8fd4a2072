/- Planes as plain data: a size, a Max, a list of pixels. No program is named. The functions of the reference of layer 4 that only read: sizes, valid planes, equal lists, equal planes. Equal lists and equal planes, as contracts of the reference. Rows of ints in blocks of their own: made, kept, stored into; the pixels of a plane that a call has made. The contract of the reference's New: the plane whose pixels are all 0, in a block of its own, or the zero plane. -/
import Derived.Test.YtibmoibhbgbfoaaTape
import Derived.Test.YtibmoibhbgbfoaaBPlain
import Derived.BigQuiet
import Derived.Deep.QuietTactic
import Derived.Deep.AppendLies
import Derived.Laws.OwnMore
import Derived.Laws.CopyOwn
namespace Go.Proofs.Ytibmoibhbgbfoaa
open Go.ChangeShapes Go.WideShapes Go.ChangeAt Go.RowKit
set_option linter.unusedVariables false
set_option linter.unusedSimpArgs false

def sizeB (W H M : Int) : Bool := decide ((1 ≤ W ∧ W ≤ 128) ∧ (1 ≤ H ∧ H ≤ 128) ∧ W * H ≤ 4096 ∧ (1 ≤ M ∧ M ≤ 4294967296))
theorem sizeB_t {W H M : Int} : sizeB W H M = true ↔ ((1 ≤ W ∧ W ≤ 128) ∧ (1 ≤ H ∧ H ≤ 128) ∧ W * H ≤ 4096 ∧ (1 ≤ M ∧ M ≤ 4294967296)) := by simp [sizeB]
theorem sizeB_f {W H M : Int} : sizeB W H M = false ↔ ¬ ((1 ≤ W ∧ W ≤ 128) ∧ (1 ≤ H ∧ H ≤ 128) ∧ W * H ≤ 4096 ∧ (1 ≤ M ∧ M ≤ 4294967296)) := by simp only [sizeB, decide_eq_false_iff_not]
theorem prod_bd {W H : Int} (w1 : 1 ≤ W) (w2 : W ≤ 128) (h1 : 1 ≤ H) (h2 : H ≤ 128) : 1 ≤ W * H ∧ W * H ≤ 16384 := by
  constructor
  · have := Int.mul_le_mul w1 h1 (by omega) (by omega); omega
  · have := Int.mul_le_mul w2 h2 (by omega) (by omega); omega
/-- every pixel from 0 to the Max -/
def Pixs (M : Int) (L : List Int) (n : Nat) : Prop := ∀ k, k < n → 0 ≤ L.getD k 0 ∧ L.getD k 0 ≤ M
instance (M : Int) (L : List Int) (n : Nat) : Decidable (Pixs M L n) := by unfold Pixs; infer_instance
def planeB (W H M : Int) (L : List Int) : Bool := sizeB W H M && decide ((L.length : Int) = W * H ∧ Pixs M L L.length)
theorem planeB_t {W H M : Int} {L : List Int} : planeB W H M L = true ↔ (sizeB W H M = true ∧ (L.length : Int) = W * H ∧ Pixs M L L.length) := by simp [planeB]
theorem planeB_size {W H M : Int} {L : List Int} (h : sizeB W H M = false) : planeB W H M L = false := by simp [planeB, h]
theorem planeB_len {W H M : Int} {L : List Int} (h : ¬ (L.length : Int) = W * H) : planeB W H M L = false := by simp [planeB, h]
theorem planeB_pix {W H M : Int} {L : List Int} {k : Nat} (hk : k < L.length) (h : L.getD k 0 < 0 ∨ M < L.getD k 0) : planeB W H M L = false := by
  rcases hp : planeB W H M L with _ | _
  · rfl
  · have := (planeB_t.1 hp).2.2 k hk; omega
theorem pixs_step {M : Int} {L : List Int} {k : Nat} (h : Pixs M L k) (h0 : 0 ≤ L.getD k 0) (h1 : L.getD k 0 ≤ M) : Pixs M L (k + 1) := by
  intro j hj
  by_cases e : j = k
  · subst e; exact ⟨h0, h1⟩
  · exact h j (by omega)
theorem pixs_zero (M : Int) (L : List Int) : Pixs M L 0 := fun k hk => by omega
theorem planeB_all {W H M : Int} {L : List Int} (hs : sizeB W H M = true) (hl : (L.length : Int) = W * H) (hp : Pixs M L L.length) : planeB W H M L = true := planeB_t.2 ⟨hs, hl, hp⟩
theorem plane_len {W H M : Int} {L : List Int} (h : planeB W H M L = true) : L.length ≤ 4096 := by
  obtain ⟨hs, hl, _⟩ := planeB_t.1 h
  have := (sizeB_t.1 hs).2.2.1
  omega
open Go.ChangeShapes Go.WideShapes Go.ChangeAt Go.RowKit
set_option linter.unusedVariables false
set_option linter.unusedSimpArgs false

theorem rpsize_any (W H M : Int) (w : World) : Calls Try.prog 64 #[.int .i64 W, .int .i64 H, .int .i64 M] w fun e w' => e = .returned (.bool (sizeB W H M)) ∧ w = w' := by
  by_cases h : (1 ≤ W ∧ W ≤ 128) ∧ (1 ≤ H ∧ H ≤ 128)
  · obtain ⟨⟨w1, w2⟩, h1, h2⟩ := h
    obtain ⟨p1, p2⟩ := prod_bd w1 w2 h1 h2
    obtain ⟨P, eP⟩ : ∃ P, W * H = P := ⟨_, rfl⟩
    have eS : sizeB W H M = decide (P ≤ 4096 ∧ (1 ≤ M ∧ M ≤ 4294967296)) := by rw [sizeB, eP]; simp [w1, w2, h1, h2]
    have hS := Lib.hid eS
    rw [eP] at p1 p2
    have hP := eP
    clear eS eP
    go_enter Try.func64, Try.ntmps64
    go_wp2
    all_goals
      go_ret
      refine ⟨ret_bool ?_, rfl⟩
      rw [hS.out, Bool.eq_iff_iff]; simp at * <;> omega
  · have hS := Lib.hid (sizeB_f (W := W) (H := H) (M := M) |>.2 (fun g => h ⟨g.1, g.2.1⟩))
    have h' : W < 1 ∨ 128 < W ∨ H < 1 ∨ 128 < H := by omega
    clear h
    go_enter Try.func64, Try.ntmps64
    rcases h' with h' | h' | h' | h'
    all_goals
      go_wp2
      all_goals
        go_ret
        exact ⟨ret_bool hS.out.symm, rfl⟩
theorem rpsize_is {W H M : Int} {v : Bool} (h : sizeB W H M = v) (w : World) : Calls Try.prog 64 #[.int .i64 W, .int .i64 H, .int .i64 M] w fun e w' => e = .returned (.bool v) ∧ w = w' := by
  rw [← h]; exact rpsize_any W H M w
set_option maxHeartbeats 1000000 in
theorem rpvalid_any (W H M : Int) (L : List Int) (a : Option Addr) (cap : Nat) (w : World) (hs : SliceIs w a L) (hl : L.length ≤ 9223372036854775807) :
    Calls Try.prog 43 #[.agg #[.int .i64 W, .int .i64 H, .int .i64 M, .slice a L.length cap]] w (TestPost (planeB W H M L) w) := by
  rcases hz : sizeB W H M with _ | _
  · have hz' := Lib.hid hz
    clear hz hs
    go_enter Try.func43, Try.ntmps43
    go_wp2_with fail
    refine (rpsize_is hz'.out _).mono ?_; rintro e w1 ⟨rfl, rfl⟩
    go_wp2_with fail
    go_ret
    exact ⟨ret_bool (planeB_size hz'.out).symm, balloc (bref _) _⟩
  · have hz' := Lib.hid hz
    obtain ⟨⟨w1, w2⟩, ⟨h1, h2⟩, hp, m1, m2⟩ := sizeB_t.1 hz
    obtain ⟨p1, p2⟩ := prod_bd w1 w2 h1 h2
    obtain ⟨P, eP⟩ : ∃ P, W * H = P := ⟨_, rfl⟩
    rw [eP] at hp p1 p2
    have eP' := Lib.hid eP
    have hs' := Lib.hid hs
    clear hz hs
    by_cases hlen : (L.length : Int) = P
    · go_enter Try.func43, Try.ntmps43
      go_wp2_with fail
      refine (rpsize_is hz'.out _).mono ?_; rintro e w1 ⟨rfl, rfl⟩
      go_wp2_with fail
      clear eP
      have hb := Lib.hid (balloc (bref w) (.cells #[.int .i64 W, .int .i64 H, .int .i64 M, .slice a L.length cap] 35))
      have hc0 : Hid ((w.alloc (.cells #[.int .i64 W, .int .i64 H, .int .i64 M, .slice a L.length cap] 35)).cell? ⟨w.heap.size, 2, none⟩ = some (.int .i64 M)) := Lib.hid (by go_cell)
      have hc1 : Hid ((w.alloc (.cells #[.int .i64 W, .int .i64 H, .int .i64 M, .slice a L.length cap] 35)).cell? ⟨w.heap.size, 3, none⟩ = some (.slice a L.length cap)) := Lib.hid (by go_cell)
      obtain ⟨wc, ewc⟩ : ∃ wc, w.alloc (.cells #[.int .i64 W, .int .i64 H, .int .i64 M, .slice a L.length cap] 35) = wc := ⟨_, rfl⟩
      rw [ewc] at hb hc0 hc1
      simp only [ewc]
      clear ewc
      have hc0' := hc0.out
      have hc1' := hc1.out
      go_loopw [3] (fun i wr => ∃ k : Nat, k ≤ L.length ∧ i = .int .i64 k ∧ Hid (Pixs M L k) ∧ ∃ n, wr = wc.drewN n) (fun i _ => L.length - (intOf i).toNat)
      case atStart => exact ⟨0, by omega, rfl, Lib.hid (pixs_zero M L), 0, rfl⟩
      case round =>
        obtain ⟨k, hk, rfl, hP, nd, rfl⟩ := hrel
        by_cases hlt : k < L.length
        · obtain ⟨b, off, rfl, hcell⟩ := (is_below hs'.out hb.out) k hlt
          have hkI : (k : Int) < L.length := by omega
          obtain ⟨v, ev⟩ : ∃ v, L.getD k 0 = v := ⟨_, rfl⟩
          rw [ev] at hcell
          have ev' := Lib.hid ev
          clear ev
          by_cases v0 : v < 0
          · have d0 : decide (v < 0) = true := by simpa using v0
            go_wp2_with fail
            go_quiet (fail)
            go_wp2_with fail
            go_ret
            exact ⟨ret_bool (planeB_pix hlt (by rw [ev'.out]; omega)).symm, bdrewN (bdrewN hb.out _) _⟩
          · have d0 : decide (v < 0) = false := by simpa using v0
            by_cases v1 : v > M
            · have d1 : decide (v > M) = true := by simpa using v1
              go_wp2_with fail
              go_quiet (fail)
              go_wp2_with fail
              go_ret
              exact ⟨ret_bool (planeB_pix hlt (by rw [ev'.out]; omega)).symm, bdrewN (bdrewN hb.out _) _⟩
            · have d1 : decide (v > M) = false := by simpa using v1
              have hS := Lib.hid (pixs_step hP.out (by rw [ev'.out]; omega) (by rw [ev'.out]; omega))
              go_wp2_with fail
              go_quiet (fail)
              go_wp2_with fail
              go_roundw
              case rel => exact ⟨k + 1, by omega, by go_num, hS, _, rfl⟩
              case measure => simp [intOf]; omega
        · obtain rfl : k = L.length := by omega
          go_wp2_with fail
          go_ret
          exact ⟨ret_bool (planeB_all hz'.out (by rw [eP'.out]; omega) hP.out).symm, bdrewN hb.out _⟩
    · go_enter Try.func43, Try.ntmps43
      go_wp2_with fail
      refine (rpsize_is hz'.out _).mono ?_; rintro e w1 ⟨rfl, rfl⟩
      go_wp2_with fail
      go_ret
      exact ⟨ret_bool (planeB_len (by rw [eP'.out]; exact hlen)).symm, balloc (bref _) _⟩
open Go.ChangeShapes Go.WideShapes Go.ChangeAt Go.RowKit
set_option linter.unusedVariables false
set_option linter.unusedSimpArgs false

/-- two lists agree on their first numbers -/
def Agree (L K : List Int) (n : Nat) : Prop := ∀ k, k < n → L.getD k 0 = K.getD k 0
theorem agree_zero (L K : List Int) : Agree L K 0 := fun k hk => by omega
theorem agree_step {L K : List Int} {k : Nat} (h : Agree L K k) (e : L.getD k 0 = K.getD k 0) : Agree L K (k + 1) := by
  intro j hj
  by_cases g : j = k
  · subst g; exact e
  · exact h j (by omega)
theorem agree_eq {L K : List Int} (hl : L.length = K.length) (h : Agree L K L.length) : L = K := by
  apply List.ext_getElem hl
  intro k h1 h2
  have := h k h1
  simpa [List.getD_eq_getElem?_getD, h1, h2] using this
theorem same_t {L K : List Int} (hl : L.length = K.length) (h : Agree L K L.length) : true = decide (L = K) := by simp [agree_eq hl h]
theorem same_len {L K : List Int} (hl : ¬ (L.length : Int) = K.length) : false = decide (L = K) := by
  have : ¬ L = K := fun e => hl (by rw [e])
  simp [this]
theorem same_ne {L K : List Int} {k : Nat} (h : ¬ L.getD k 0 = K.getD k 0) : false = decide (L = K) := by
  have : ¬ L = K := fun e => h (by rw [e])
  simp [this]
theorem rsame_any (L K : List Int) (a b : Option Addr) (cap cap' : Nat) (w : World) (ha : SliceIs w a L) (hb : SliceIs w b K) (hl : L.length ≤ 9223372036854775807) (hk : K.length ≤ 9223372036854775807) :
    Calls Try.prog 52 #[.slice a L.length cap, .slice b K.length cap'] w (TestPost (decide (L = K)) w) := by
  by_cases hlen : (L.length : Int) = K.length
  · have ha' := Lib.hid ha
    have hb' := Lib.hid hb
    clear ha hb
    have hB := Lib.hid (bref w)
    go_enter Try.func52, Try.ntmps52
    go_wp2_with fail
    go_loopw [5] (fun i wr => ∃ k : Nat, k ≤ L.length ∧ i = .int .i64 k ∧ Hid (Agree L K k) ∧ ∃ n, wr = w.drewN n) (fun i _ => L.length - (intOf i).toNat)
    case atStart => exact ⟨0, by omega, rfl, Lib.hid (agree_zero L K), 0, rfl⟩
    case round =>
      obtain ⟨k, hk0, rfl, hP, nd, rfl⟩ := hrel
      by_cases hlt : k < L.length
      · obtain ⟨p, po, rfl, hcell⟩ := ha'.out k hlt
        obtain ⟨q, qo, rfl, hcell2⟩ := hb'.out k (by omega)
        have hkI : (k : Int) < L.length := by omega
        have hkI2 : (k : Int) < K.length := by omega
        obtain ⟨v, ev⟩ : ∃ v, L.getD k 0 = v := ⟨_, rfl⟩
        obtain ⟨u, eu⟩ : ∃ u, K.getD k 0 = u := ⟨_, rfl⟩
        rw [ev] at hcell
        rw [eu] at hcell2
        have ev' := Lib.hid ev
        have eu' := Lib.hid eu
        clear ev eu
        by_cases v0 : v = u
        · have hS := Lib.hid (agree_step hP.out (by rw [ev'.out, eu'.out]; exact v0))
          subst v0
          go_wp2_with fail
          go_quiet (fail)
          go_wp2_with fail
          go_roundw
          case rel => exact ⟨k + 1, by omega, by go_num, hS, _, rfl⟩
          case measure => simp [intOf]; omega
        · have hN := Lib.hid (same_ne (L := L) (K := K) (k := k) (by rw [ev'.out, eu'.out]; exact v0))
          go_wp2_with fail
          go_quiet (fail)
          go_wp2_with fail
          go_ret
          exact ⟨ret_bool hN.out, bdrewN (bdrewN hB.out _) _⟩
      · obtain rfl : k = L.length := by omega
        have hN := Lib.hid (same_t (by omega) hP.out)
        go_wp2_with fail
        go_ret
        exact ⟨ret_bool hN.out, bdrewN hB.out _⟩
  · have hN := Lib.hid (same_len hlen)
    clear ha hb
    go_enter Try.func52, Try.ntmps52
    go_wp2_with fail
    go_ret
    exact ⟨ret_bool hN.out, bref _⟩
/-- two planes are equal -/
def eqB (W H M : Int) (L : List Int) (W' H' M' : Int) (K : List Int) : Bool := decide (W = W' ∧ H = H' ∧ M = M' ∧ L = K)
theorem requal_any (W H M W' H' M' : Int) (L K : List Int) (a b : Option Addr) (cap cap' : Nat) (w : World) (ha : SliceIs w a L) (hb : SliceIs w b K) (hl : L.length ≤ 9223372036854775807) (hk : K.length ≤ 9223372036854775807) :
    Calls Try.prog 22 #[.agg #[.int .i64 W, .int .i64 H, .int .i64 M, .slice a L.length cap], .agg #[.int .i64 W', .int .i64 H', .int .i64 M', .slice b K.length cap']] w (TestPost (eqB W H M L W' H' M' K) w) := by
  have ha' := Lib.hid ha
  have hb' := Lib.hid hb
  clear ha hb
  by_cases hw : W = W' ∧ H = H' ∧ M = M'
  · obtain ⟨rfl, rfl, rfl⟩ := hw
    have e : eqB W H M L W H M K = decide (L = K) := by simp [eqB]
    have e' := Lib.hid e
    clear e
    go_enter Try.func22, Try.ntmps22
    go_wp2_with fail
    refine (rsame_any L K a b cap cap' _ (is_below ha'.out (balloc (balloc (bref _) _) _)) (is_below hb'.out (balloc (balloc (bref _) _) _)) hl hk).mono ?_; rintro e w1 ⟨rfl, hB⟩
    go_wp2_with fail
    go_ret
    exact ⟨ret_bool e'.out.symm, bthen (balloc (balloc (bref _) _) _) hB⟩
  · have e : false = eqB W H M L W' H' M' K := by
      have : ¬ (W = W' ∧ H = H' ∧ M = M' ∧ L = K) := fun g => hw ⟨g.1, g.2.1, g.2.2.1⟩
      simp [eqB, this]
    have e' := Lib.hid e
    have h' : ¬ W = W' ∨ (W = W' ∧ ¬ H = H') ∨ (W = W' ∧ H = H' ∧ ¬ M = M') := by omega
    clear e hw
    go_enter Try.func22, Try.ntmps22
    rcases h' with h' | ⟨rfl, h'⟩ | ⟨rfl, rfl, h'⟩
    all_goals
      go_wp2_with fail
      go_ret
      exact ⟨ret_bool e'.out, balloc (balloc (bref _) _) _⟩
open Go.ChangeShapes Go.WideShapes Go.ChangeAt Go.RowKit
set_option linter.unusedVariables false
set_option linter.unusedSimpArgs false

def ints (L : List Int) : List Value := L.map (fun v => Value.int .i64 v)
theorem ints_len (L : List Int) : (ints L).length = L.length := by simp [ints]
theorem ints_at (L : List Int) (k : Nat) : (ints L)[k]? = if k < L.length then some (.int .i64 (L.getD k 0)) else none := by
  unfold ints
  by_cases h : k < L.length
  · simp [h, List.getD_eq_getElem?_getD]
  · simp [h]
theorem ints_one {L : List Int} : ∀ v ∈ ints L, v.oneCell' = true := by
  intro v hv
  simp [ints] at hv
  obtain ⟨a, _, rfl⟩ := hv
  rfl
theorem ints_set (L : List Int) (k : Nat) (v : Int) : (ints L).set k (.int .i64 v) = ints (L.set k v) := by simp [ints, List.map_set]
/-- a slice that is the whole of a block of its own, made since 'base': its numbers -/
def PixAt (base : Nat) (w : World) (g cap : Nat) (L : List Int) : Prop := w.ownsRow base 3 1 (.slice (some ⟨g, 0, none⟩) L.length cap) L.length (ints L)
theorem PixAt.lt {base : Nat} {w : World} {g cap : Nat} {L : List Int} (h : PixAt base w g cap L) : base ≤ g ∧ g < w.heap.size := World.ownsRow.lt h g rfl
theorem PixAt.cell {base : Nat} {w : World} {g cap : Nat} {L : List Int} (h : PixAt base w g cap L) {k : Nat} (hk : k < L.length) : w.cell? ⟨g, k, none⟩ = some (.int .i64 (L.getD k 0)) := by
  have := World.ownsRow.cellAt h k (by omega)
  rw [this, ints_at, if_pos hk]
theorem PixAt.frozen {base : Nat} {w : World} {g cap : Nat} {L : List Int} (h : PixAt base w g cap L) (k : Nat) : w.frozen? ⟨g, k, none⟩ = false := World.ownsRow.frozenAt h k
theorem PixAt.isS {base : Nat} {w : World} {g cap : Nat} {L : List Int} (h : PixAt base w g cap L) : SliceIs w (some ⟨g, 0, none⟩) L := fun k hk => ⟨g, 0, rfl, by rw [Nat.zero_add]; exact h.cell hk⟩
theorem PixAt.below {base : Nat} {w w' : World} {g cap : Nat} {L : List Int} (h : PixAt base w g cap L) (hb : Below w.heap.size w w') : PixAt base w' g cap L := own_below h hb
theorem PixAt.grown {base : Nat} {w w' : World} {g cap : Nat} {L : List Int} {row : Option Nat} (h : PixAt base w g cap L) (hg : w.grownBy w' row) (hne : ¬ some g = row) : PixAt base w' g cap L := World.ownsRow.kept h hg (.inr hne)
theorem PixAt.base {base b2 : Nat} {w : World} {g cap : Nat} {L : List Int} (h : PixAt base w g cap L) (hb : b2 ≤ base) : PixAt b2 w g cap L := World.ownsRow.mono h hb
theorem PixAt.store {base : Nat} {w : World} {g cap : Nat} {L : List Int} (h : PixAt base w g cap L) (k : Nat) (v : Int) : PixAt base (w.setCell ⟨g, k, none⟩ (.int .i64 v)) g cap (L.set k v) ∧ w.grownBy (w.setCell ⟨g, k, none⟩ (.int .i64 v)) (some g) := by
  obtain ⟨h1, h2⟩ := World.ownsRow.stored h k (.int .i64 v)
  rw [ints_set] at h1
  refine ⟨?_, h2⟩
  unfold PixAt
  rw [List.length_set]
  exact h1
theorem PixAt.drewN {base : Nat} {w : World} {g cap : Nat} {L : List Int} (h : PixAt base w g cap L) (n : Nat) : PixAt base (w.drewN n) g cap L := PixAt.below h (bdrewN (bref w) n)
/-- a whole block -/
def RowIs (w : World) (g : Nat) (L : List Int) : Prop := w.heap[g]? = some (.cells (ints L).toArray 3 (0, 0))
theorem RowIs.pix {base : Nat} {w : World} {g : Nat} {L : List Int} (h : RowIs w g L) (hb : base ≤ g) (hl : L.length ≤ maxLen) : PixAt base w g L.length L :=
  ⟨by simp [ints], .inr ⟨g, L.length, (ints L).toArray, rfl, hb, h, Nat.le_refl _, hl, by simp [ints], by rw [List.take_of_length_le (by simp [ints])]⟩⟩
theorem infoI : (Try.prog.info? 3).map (fun i => (i.zero, i.size, i.bytes)) = some (some (.int .i64 0), 1, 8) := by kernel_rfl
theorem run_zeros (n : Nat) (hn : n ≤ 16384) : ∃ A : Array Value, A = (ints (List.replicate n 0)).toArray ∧ ∀ W : World, (Instr.makeSlice 22 (.int .i64 (n : Int)) (.int .i64 (n : Int))).run Try.prog W = .ok (.slice (some ⟨W.heap.size, 0, none⟩) n n) (W.alloc (.cells A 3)) := by
  obtain ⟨i0, hi, hz0, hz1, hz2⟩ := info_parts infoI
  refine ⟨madeCells (Value.cells (.int .i64 0)) (n * 1), ?_, fun W => ?_⟩
  · have : (madeCells (Value.cells (.int .i64 0)) (n * 1)).toList = ints (List.replicate n 0) := by
      rw [Nat.mul_one, show Value.cells (.int .i64 0) = #[.int .i64 0] from rfl, toList_madeCells_one]
      simp [ints]
    rw [← this]
  · have := run_make W 22 3 i0 (.int .i64 0) Try.underlying22 hi hz0 .i64 .i64 (n : Int) (n : Int) (by omega) (by omega) (by rw [hz2]; omega) (by omega)
    rw [this, hz1]
    simp
theorem row_new (w : World) (L : List Int) : RowIs (w.alloc (.cells (ints L).toArray 3)) w.heap.size L := heap_alloc_new w _
open Go.ChangeShapes Go.WideShapes Go.ChangeAt Go.RowKit
set_option linter.unusedVariables false
set_option linter.unusedSimpArgs false

/-- a plane as a value: its pixels the whole of a block -/
def pv (W H M : Int) (g n cap : Nat) : Value := .agg #[.int .i64 W, .int .i64 H, .int .i64 M, .slice (some ⟨g, 0, none⟩) n cap]
def pz : Value := .agg #[.int .i64 0, .int .i64 0, .int .i64 0, .slice none 0 0]
/-- a plane came back and true, or the zero plane and false: by the option; its pixels are the whole of a new block -/
def PlanePost (W H M : Int) (o : Option (List Int)) (w : World) (e : Ending) (w' : World) : Prop :=
  Below w.heap.size w w' ∧ match o with
    | some L => ∃ g cap, e = .returned (.tuple #[pv W H M g L.length cap, .bool true]) ∧ PixAt w.heap.size w' g cap L
    | none => e = .returned (.tuple #[pz, .bool false])
def newO (W H M : Int) : Option (List Int) := if sizeB W H M = true then some (List.replicate (W * H).toNat 0) else none
theorem rpnew_any (W H M : Int) (w : World) : Calls Try.prog 48 #[.int .i64 W, .int .i64 H, .int .i64 M] w (PlanePost W H M (newO W H M) w) := by
  rcases hz : sizeB W H M with _ | _
  · have hz' := Lib.hid hz
    have hO := Lib.hid (show newO W H M = none by simp [newO, hz])
    clear hz
    go_enter Try.func48, Try.ntmps48
    go_wp2_with fail
    refine (rpsize_is hz'.out _).mono ?_; rintro e w1 ⟨rfl, rfl⟩
    go_wp2_with fail
    go_returns
    rw [hO.out]
    exact ⟨balloc (bref _) _, rfl⟩
  · have hz' := Lib.hid hz
    obtain ⟨⟨w1, w2⟩, ⟨h1, h2⟩, hp, m1, m2⟩ := sizeB_t.1 hz
    obtain ⟨p1, p2⟩ := prod_bd w1 w2 h1 h2
    obtain ⟨n, eP⟩ : ∃ n : Nat, W * H = n := ⟨(W * H).toNat, by omega⟩
    have hO := Lib.hid (show newO W H M = some (List.replicate n 0) by simp [newO, hz, eP])
    rw [eP] at hp p1 p2
    obtain ⟨A, hA, hmk⟩ := run_zeros n (by omega)
    have hA' := Lib.hid hA
    clear hz hA
    go_enter Try.func48, Try.ntmps48
    go_wp2_with fail
    refine (rpsize_is hz'.out _).mono ?_; rintro e w1 ⟨rfl, rfl⟩
    go_wp2_with fail
    go_returns
    rw [hO.out]
    refine ⟨by go_grown, w.heap.size + 1, n, by simp [pv], ?_⟩
    have hr := row_new (w.alloc (.cells #[.int .i64 W, .int .i64 H, .int .i64 M, .slice (some ⟨w.heap.size + 1, 0, none⟩) n n] 35)) (List.replicate n 0)
    rw [← hA'.out] at hr
    have := RowIs.pix (base := w.heap.size) hr (by simp) (by simp [maxLen]; omega)
    simpa using this
end Go.Proofs.Ytibmoibhbgbfoaa
