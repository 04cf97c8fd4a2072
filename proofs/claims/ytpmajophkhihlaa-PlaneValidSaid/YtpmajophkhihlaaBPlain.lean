/- Coordinates outside of a plane: to what they are mapped, and the bounds of a range, as plain integers. No program is named. -/
import Derived.Test.YtpmajophkhihlaaRows
namespace Go.Proofs.Ytpmajophkhihlaa
set_option linter.unusedVariables false

/-- to what a coordinate is mapped, if at all -/
def idxO (i n p : Int) : Option Int :=
  if 1 ≤ n ∧ n ≤ 128 then
    if p = 0 then some (min (max i 0) (n - 1))
    else if p = 1 then some (if n ≤ i % (2 * n) then 2 * n - 1 - i % (2 * n) else i % (2 * n))
    else if p = 2 then some (i % n)
    else if p = 3 then (if 0 ≤ i ∧ i < n then some i else none)
    else none
  else none
def idxN (i n p : Int) : Int := (idxO i n p).getD 0
def idxB (i n p : Int) : Bool := (idxO i n p).isSome
theorem idx_no {i n p : Int} (h : idxO i n p = none) : (0 : Int) = idxN i n p ∧ false = idxB i n p := by simp [idxN, idxB, h]
theorem idx_at {i n p k : Int} (h : idxO i n p = some k) : k = idxN i n p ∧ true = idxB i n p := by simp [idxN, idxB, h]
theorem idx_len {i n p : Int} (h : n < 1 ∨ 128 < n) : idxO i n p = none := by
  unfold idxO; rw [if_neg (by omega)]
theorem idx_pol {i n p : Int} (h : p < 0 ∨ 3 < p) : idxO i n p = none := by
  unfold idxO; split
  · rw [if_neg (by omega), if_neg (by omega), if_neg (by omega), if_neg (by omega)]
  · rfl
theorem idx_clamp {i n : Int} (h1 : 1 ≤ n) (h2 : n ≤ 128) : idxO i n 0 = some (min (max i 0) (n - 1)) := by
  unfold idxO; rw [if_pos ⟨h1, h2⟩]; rfl
theorem idx_mirror {i n : Int} (h1 : 1 ≤ n) (h2 : n ≤ 128) : idxO i n 1 = some (if n ≤ i % (2 * n) then 2 * n - 1 - i % (2 * n) else i % (2 * n)) := by
  unfold idxO; rw [if_pos ⟨h1, h2⟩]; rfl
theorem idx_wrap {i n : Int} (h1 : 1 ≤ n) (h2 : n ≤ 128) : idxO i n 2 = some (i % n) := by
  unfold idxO; rw [if_pos ⟨h1, h2⟩]; rfl
theorem idx_const {i n : Int} (h1 : 1 ≤ n) (h2 : n ≤ 128) (h3 : 0 ≤ i) (h4 : i < n) : idxO i n 3 = some i := by
  unfold idxO; rw [if_pos ⟨h1, h2⟩, if_neg (by omega), if_neg (by omega), if_neg (by omega), if_pos rfl, if_pos ⟨h3, h4⟩]
theorem idx_out {i n : Int} (h : ¬ (0 ≤ i ∧ i < n)) : idxO i n 3 = none := by
  unfold idxO; split
  · simp
  · rfl
/-- a mapped coordinate lies within the plane -/
theorem idx_bd {i n p k : Int} (h : idxO i n p = some k) : 0 ≤ k ∧ k < n ∧ (1 ≤ n ∧ n ≤ 128) ∧ (0 ≤ p ∧ p ≤ 3) := by
  unfold idxO at h
  split at h
  · rename_i hn
    have m0 := Int.emod_nonneg i (show (2 * n) ≠ 0 by omega)
    have m1 := Int.emod_lt_of_pos i (show 0 < 2 * n by omega)
    have w0 := Int.emod_nonneg i (show n ≠ 0 by omega)
    have w1 := Int.emod_lt_of_pos i (show 0 < n by omega)
    split at h
    · simp only [Option.some.injEq] at h; omega
    · split at h
      · simp only [Option.some.injEq] at h
        split at h <;> omega
      · split at h
        · simp only [Option.some.injEq] at h; omega
        · split at h
          · split at h
            · simp only [Option.some.injEq] at h; omega
            · cases h
          · cases h
  · cases h
/-- an edge is valid -/
def edgeB (p f m : Int) : Bool := decide ((p = 3 ∧ 0 ≤ f ∧ f ≤ m) ∨ (0 ≤ p ∧ p < 3 ∧ f = 0))
theorem edgeB_t {p f m : Int} : edgeB p f m = true ↔ ((p = 3 ∧ 0 ≤ f ∧ f ≤ m) ∨ (0 ≤ p ∧ p < 3 ∧ f = 0)) := by simp [edgeB]

/-- a coordinate of a rectangle -/
def InC (a : Int) : Prop := -1048576 ≤ a ∧ a ≤ 1048576
/-- what a range of coordinates is mapped to: its least and its greatest one -/
def Spans (a b n p lo hi : Int) : Prop := (∃ i, a ≤ i ∧ i < b ∧ idxO i n p = some lo) ∧ (∃ i, a ≤ i ∧ i < b ∧ idxO i n p = some hi) ∧ ∀ i k, a ≤ i → i < b → idxO i n p = some k → lo ≤ k ∧ k ≤ hi
def NoSpan (a b n p : Int) : Prop := ∀ i, a ≤ i → i < b → idxO i n p = none
/-- the three results of a range -/
def RangeIs (a b n p lo hi : Int) (ok : Bool) : Prop :=
  (ok = true ∧ InC a ∧ InC b ∧ Spans a b n p lo hi) ∨ (ok = false ∧ lo = 0 ∧ hi = 0 ∧ (¬ (InC a ∧ InC b) ∨ NoSpan a b n p))
theorem spans_one {a b n p lo hi lo' hi' : Int} (h : Spans a b n p lo hi) (k : Spans a b n p lo' hi') : lo = lo' ∧ hi = hi' := by
  obtain ⟨⟨i1, a1, b1, c1⟩, ⟨i2, a2, b2, c2⟩, hall⟩ := h
  obtain ⟨⟨j1, d1, e1, f1⟩, ⟨j2, d2, e2, f2⟩, kall⟩ := k
  have := hall j1 lo' d1 e1 f1
  have := hall j2 hi' d2 e2 f2
  have := kall i1 lo a1 b1 c1
  have := kall i2 hi a2 b2 c2
  omega
theorem spans_not {a b n p lo hi : Int} (h : Spans a b n p lo hi) (k : NoSpan a b n p) : False := by
  obtain ⟨⟨i1, a1, b1, c1⟩, _⟩ := h
  rw [k i1 a1 b1] at c1
  cases c1
/-- the results are determined -/
theorem range_one {a b n p lo hi lo' hi' : Int} {ok ok' : Bool} (h : RangeIs a b n p lo hi ok) (k : RangeIs a b n p lo' hi' ok') : lo = lo' ∧ hi = hi' ∧ ok = ok' := by
  rcases h with ⟨rfl, ha, hb, hs⟩ | ⟨rfl, rfl, rfl, hn⟩
  · rcases k with ⟨rfl, _, _, ks⟩ | ⟨rfl, rfl, rfl, kn⟩
    · obtain ⟨h1, h2⟩ := spans_one hs ks
      exact ⟨h1, h2, rfl⟩
    · rcases kn with kn | kn
      · exact (kn ⟨ha, hb⟩).elim
      · exact (spans_not hs kn).elim
  · rcases k with ⟨rfl, ka, kb, ks⟩ | ⟨rfl, rfl, rfl, kn⟩
    · rcases hn with hn | hn
      · exact (hn ⟨ka, kb⟩).elim
      · exact (spans_not ks hn).elim
    · exact ⟨rfl, rfl, rfl⟩
/-- a scan from a up to i: what is known of the least and the greatest one so far -/
def Scan (a i n p lo hi : Int) (f : Bool) : Prop := (f = true ∧ Spans a i n p lo hi) ∨ (f = false ∧ lo = 0 ∧ hi = 0 ∧ NoSpan a i n p)
theorem scan_start (a n p : Int) : Scan a a n p 0 0 false := .inr ⟨rfl, rfl, rfl, fun i h1 h2 => by omega⟩
theorem scan_skip {a i n p lo hi : Int} {f : Bool} (h : Scan a i n p lo hi f) (hi' : a ≤ i) (hk : idxO i n p = none) : Scan a (i + 1) n p lo hi f := by
  rcases h with ⟨rfl, ⟨i1, a1, b1, c1⟩, ⟨i2, a2, b2, c2⟩, hall⟩ | ⟨rfl, rfl, rfl, hn⟩
  · refine .inl ⟨rfl, ⟨i1, a1, by omega, c1⟩, ⟨i2, a2, by omega, c2⟩, fun j k h1 h2 h3 => ?_⟩
    by_cases e : j = i
    · subst e; rw [hk] at h3; cases h3
    · exact hall j k h1 (by omega) h3
  · refine .inr ⟨rfl, rfl, rfl, fun j h1 h2 => ?_⟩
    by_cases e : j = i
    · subst e; exact hk
    · exact hn j h1 (by omega)
theorem scan_some {a i n p lo hi k lo' hi' : Int} {f : Bool} (h : Scan a i n p lo hi f) (ha : a ≤ i) (hk : idxO i n p = some k)
    (hl : lo' = if f = false ∨ k < lo then k else lo) (hh : hi' = if f = false ∨ k > hi then k else hi) : Scan a (i + 1) n p lo' hi' true := by
  rcases h with ⟨rfl, ⟨i1, a1, b1, c1⟩, ⟨i2, a2, b2, c2⟩, hall⟩ | ⟨rfl, rfl, rfl, hn⟩
  · simp only [Bool.true_eq_false, false_or] at hl hh
    have x1 := hall i1 lo a1 b1 c1
    have x2 := hall i2 hi a2 b2 c2
    refine .inl ⟨rfl, ?_, ?_, fun j q h1 h2 h3 => ?_⟩
    · split at hl
      · exact ⟨i, ha, by omega, by rw [hl]; exact hk⟩
      · exact ⟨i1, a1, by omega, by rw [hl]; exact c1⟩
    · split at hh
      · exact ⟨i, ha, by omega, by rw [hh]; exact hk⟩
      · exact ⟨i2, a2, by omega, by rw [hh]; exact c2⟩
    · by_cases e : j = i
      · subst e
        rw [hk] at h3
        simp only [Option.some.injEq] at h3
        split at hl <;> split at hh <;> omega
      · have := hall j q h1 (by omega) h3
        split at hl <;> split at hh <;> omega
  · simp only [true_or, if_true] at hl hh
    subst hl; subst hh
    refine .inl ⟨rfl, ⟨i, ha, by omega, hk⟩, ⟨i, ha, by omega, hk⟩, fun j q h1 h2 h3 => ?_⟩
    by_cases e : j = i
    · subst e; rw [hk] at h3; simp only [Option.some.injEq] at h3; omega
    · rw [hn j h1 (by omega)] at h3; cases h3
/-- a scan over the whole range gives the results -/
theorem scan_end {a b n p lo hi : Int} {f : Bool} (ha : InC a) (hb : InC b) (h : Scan a b n p lo hi f) : RangeIs a b n p lo hi f := by
  rcases h with ⟨rfl, hs⟩ | ⟨rfl, rfl, rfl, hn⟩
  · exact .inl ⟨rfl, ha, hb, hs⟩
  · exact .inr ⟨rfl, rfl, rfl, .inr hn⟩
theorem scan_none {a b n p : Int} (h : b ≤ a) : Scan a b n p 0 0 false := .inr ⟨rfl, rfl, rfl, fun i h1 h2 => by omega⟩
/-- two ranges that are mapped to the same coordinates -/
theorem scan_like {a b a' b' n p lo hi : Int} {f : Bool} (h1 : ∀ i, a ≤ i → i < b → ∃ j, a' ≤ j ∧ j < b' ∧ idxO j n p = idxO i n p) (h2 : ∀ i, a' ≤ i → i < b' → ∃ j, a ≤ j ∧ j < b ∧ idxO j n p = idxO i n p)
    (h : Scan a' b' n p lo hi f) : Scan a b n p lo hi f := by
  rcases h with ⟨rfl, ⟨i1, a1, b1, c1⟩, ⟨i2, a2, b2, c2⟩, hall⟩ | ⟨rfl, rfl, rfl, hn⟩
  · obtain ⟨j1, d1, e1, f1⟩ := h2 i1 a1 b1
    obtain ⟨j2, d2, e2, f2⟩ := h2 i2 a2 b2
    refine .inl ⟨rfl, ⟨j1, d1, e1, by rw [f1]; exact c1⟩, ⟨j2, d2, e2, by rw [f2]; exact c2⟩, fun i k g1 g2 g3 => ?_⟩
    obtain ⟨j, d, e, f⟩ := h1 i g1 g2
    exact hall j k d e (by rw [f]; exact g3)
  · refine .inr ⟨rfl, rfl, rfl, fun i g1 g2 => ?_⟩
    obtain ⟨j, d, e, f⟩ := h1 i g1 g2
    rw [← f]; exact hn j d e
theorem idx_period {i n p : Int} (t : Int) (hp : p = 1 ∨ p = 2) : idxO (i + 2 * n * t) n p = idxO i n p := by
  unfold idxO
  have e1 : (i + 2 * n * t) % (2 * n) = i % (2 * n) := Int.add_mul_emod_self_left _ _ _
  have e2 : (i + 2 * n * t) % n = i % n := by rw [show 2 * n * t = n * (2 * t) by grind]; exact Int.add_mul_emod_self_left _ _ _
  rcases hp with rfl | rfl
  · simp [e1]
  · simp [e2]
/-- two whole periods say all of a longer range -/
theorem scan_period {a b n p lo hi : Int} {f : Bool} (hn : 1 ≤ n) (hp : p = 1 ∨ p = 2) (hlen : a + 2 * n ≤ b) (h : Scan a (a + 2 * n) n p lo hi f) : Scan a b n p lo hi f := by
  refine scan_like (fun i h1 h2 => ?_) (fun i h1 h2 => ⟨i, h1, by omega, rfl⟩) h
  have m0 := Int.emod_nonneg (i - a) (show (2 * n) ≠ 0 by omega)
  have m1 := Int.emod_lt_of_pos (i - a) (show 0 < 2 * n by omega)
  refine ⟨a + (i - a) % (2 * n), by omega, by omega, ?_⟩
  have e : i = a + (i - a) % (2 * n) + 2 * n * ((i - a) / (2 * n)) := by
    have := Int.emod_add_mul_ediv (i - a) (2 * n)
    omega
  rw [show idxO i n p = idxO (a + (i - a) % (2 * n) + 2 * n * ((i - a) / (2 * n))) n p by rw [← e]]
  exact (idx_period _ hp).symm
theorem scan_clamp_low {a b n p lo hi : Int} {f : Bool} (hp : p = 0 ∨ p = 3) (hab : a < b) (hb : b - 1 < 0) (h : Scan (b - 1) b n p lo hi f) : Scan a b n p lo hi f := by
  refine scan_like (fun i h1 h2 => ⟨b - 1, by omega, by omega, ?_⟩) (fun i h1 h2 => ⟨i, by omega, h2, rfl⟩) h
  rcases hp with rfl | rfl
  · unfold idxO; split
    · rw [if_pos rfl, if_pos rfl]; congr 1; omega
    · rfl
  · rw [idx_out (by omega), idx_out (by omega)]
theorem scan_clamp_high {a b n p lo hi : Int} {f : Bool} (hp : p = 0 ∨ p = 3) (hn : 1 ≤ n) (hab : a < b) (ha : n ≤ a) (h : Scan a (a + 1) n p lo hi f) : Scan a b n p lo hi f := by
  refine scan_like (fun i h1 h2 => ⟨a, by omega, by omega, ?_⟩) (fun i h1 h2 => ⟨i, h1, by omega, rfl⟩) h
  rcases hp with rfl | rfl
  · unfold idxO; split
    · rw [if_pos rfl, if_pos rfl]; congr 1; omega
    · rfl
  · rw [idx_out (by omega), idx_out (by omega)]
theorem scan_clamp_mid {a b n p lo hi : Int} {f : Bool} (hp : p = 0 ∨ p = 3) (hn : 1 ≤ n) (hab : a < b) (ha : a < n) (hb : 0 ≤ b - 1) (h : Scan (max a (-1)) (min b (n + 1)) n p lo hi f) : Scan a b n p lo hi f := by
  refine scan_like (fun i h1 h2 => ⟨max (-1) (min i n), by omega, by omega, ?_⟩) (fun i h1 h2 => ⟨i, by omega, by omega, rfl⟩) h
  rcases hp with rfl | rfl
  · unfold idxO; split
    · rw [if_pos rfl, if_pos rfl]; congr 1; omega
    · rfl
  · by_cases g : 0 ≤ i ∧ i < n
    · rw [show max (-1) (min i n) = i by omega]
    · rw [idx_out (by omega), idx_out (by omega)]
end Go.Proofs.Ytpmajophkhihlaa
