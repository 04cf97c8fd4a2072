/- Coordinates outside of a plane: to what they are mapped, and the bounds of a range, as plain integers. No program is named. The functions of package border and of its reference that only compute: remainders, the check of a length and of a coordinate, to what a coordinate is mapped, which edges are valid. To what a coordinate is mapped, as contracts of Index of package border, a policy at a time. To what a coordinate is mapped, as contracts of Index of the reference, a policy at a time. Which edges are valid, as contracts of Valid of package border and of the reference; the chapter's examples. Mirroring, wrapping and clamping: symmetry, periods, continuity. Plain integers. -/
import Derived.Test.YtibmoibhbgbfoaaRows
import Derived.Test.YtibmoibhbgbfoaaTape
namespace Go.Proofs.Ytibmoibhbgbfoaa
set_option linter.unusedVariables false

/-- to what a coordinate is mapped, if at all -/
def idxO (i n p : Int) : Option Int :=
  if 1 ≤ n ∧ n ≤ 128 then
    if p = 0 then some (min (max i 0) (n - 1))
    else if p = 1 then some (if n ≤ i % (2 * n) then 2 * n - 1 - i % (2 * n) else i % (2 * n))
    else if p = 2 then some (i % n)
    else if p = 3 then (if 0 ≤ i ∧ i < n then some i else none)
    else none
  else none
def idxN (i n p : Int) : Int := (idxO i n p).getD 0
def idxB (i n p : Int) : Bool := (idxO i n p).isSome
theorem idx_no {i n p : Int} (h : idxO i n p = none) : (0 : Int) = idxN i n p ∧ false = idxB i n p := by simp [idxN, idxB, h]
theorem idx_at {i n p k : Int} (h : idxO i n p = some k) : k = idxN i n p ∧ true = idxB i n p := by simp [idxN, idxB, h]
theorem idx_len {i n p : Int} (h : n < 1 ∨ 128 < n) : idxO i n p = none := by
  unfold idxO; rw [if_neg (by omega)]
theorem idx_pol {i n p : Int} (h : p < 0 ∨ 3 < p) : idxO i n p = none := by
  unfold idxO; split
  · rw [if_neg (by omega), if_neg (by omega), if_neg (by omega), if_neg (by omega)]
  · rfl
theorem idx_clamp {i n : Int} (h1 : 1 ≤ n) (h2 : n ≤ 128) : idxO i n 0 = some (min (max i 0) (n - 1)) := by
  unfold idxO; rw [if_pos ⟨h1, h2⟩]; rfl
theorem idx_mirror {i n : Int} (h1 : 1 ≤ n) (h2 : n ≤ 128) : idxO i n 1 = some (if n ≤ i % (2 * n) then 2 * n - 1 - i % (2 * n) else i % (2 * n)) := by
  unfold idxO; rw [if_pos ⟨h1, h2⟩]; rfl
theorem idx_wrap {i n : Int} (h1 : 1 ≤ n) (h2 : n ≤ 128) : idxO i n 2 = some (i % n) := by
  unfold idxO; rw [if_pos ⟨h1, h2⟩]; rfl
theorem idx_const {i n : Int} (h1 : 1 ≤ n) (h2 : n ≤ 128) (h3 : 0 ≤ i) (h4 : i < n) : idxO i n 3 = some i := by
  unfold idxO; rw [if_pos ⟨h1, h2⟩, if_neg (by omega), if_neg (by omega), if_neg (by omega), if_pos rfl, if_pos ⟨h3, h4⟩]
theorem idx_out {i n : Int} (h : ¬ (0 ≤ i ∧ i < n)) : idxO i n 3 = none := by
  unfold idxO; split
  · simp
  · rfl
/-- a mapped coordinate lies within the plane -/
theorem idx_bd {i n p k : Int} (h : idxO i n p = some k) : 0 ≤ k ∧ k < n ∧ (1 ≤ n ∧ n ≤ 128) ∧ (0 ≤ p ∧ p ≤ 3) := by
  unfold idxO at h
  split at h
  · rename_i hn
    have m0 := Int.emod_nonneg i (show (2 * n) ≠ 0 by omega)
    have m1 := Int.emod_lt_of_pos i (show 0 < 2 * n by omega)
    have w0 := Int.emod_nonneg i (show n ≠ 0 by omega)
    have w1 := Int.emod_lt_of_pos i (show 0 < n by omega)
    split at h
    · simp only [Option.some.injEq] at h; omega
    · split at h
      · simp only [Option.some.injEq] at h
        split at h <;> omega
      · split at h
        · simp only [Option.some.injEq] at h; omega
        · split at h
          · split at h
            · simp only [Option.some.injEq] at h; omega
            · cases h
          · cases h
  · cases h
/-- an edge is valid -/
def edgeB (p f m : Int) : Bool := decide ((p = 3 ∧ 0 ≤ f ∧ f ≤ m) ∨ (0 ≤ p ∧ p < 3 ∧ f = 0))
theorem edgeB_t {p f m : Int} : edgeB p f m = true ↔ ((p = 3 ∧ 0 ≤ f ∧ f ≤ m) ∨ (0 ≤ p ∧ p < 3 ∧ f = 0)) := by simp [edgeB]

/-- a coordinate of a rectangle -/
def InC (a : Int) : Prop := -1048576 ≤ a ∧ a ≤ 1048576
/-- what a range of coordinates is mapped to: its least and its greatest one -/
def Spans (a b n p lo hi : Int) : Prop := (∃ i, a ≤ i ∧ i < b ∧ idxO i n p = some lo) ∧ (∃ i, a ≤ i ∧ i < b ∧ idxO i n p = some hi) ∧ ∀ i k, a ≤ i → i < b → idxO i n p = some k → lo ≤ k ∧ k ≤ hi
def NoSpan (a b n p : Int) : Prop := ∀ i, a ≤ i → i < b → idxO i n p = none
/-- the three results of a range -/
def RangeIs (a b n p lo hi : Int) (ok : Bool) : Prop :=
  (ok = true ∧ InC a ∧ InC b ∧ Spans a b n p lo hi) ∨ (ok = false ∧ lo = 0 ∧ hi = 0 ∧ (¬ (InC a ∧ InC b) ∨ NoSpan a b n p))
theorem spans_one {a b n p lo hi lo' hi' : Int} (h : Spans a b n p lo hi) (k : Spans a b n p lo' hi') : lo = lo' ∧ hi = hi' := by
  obtain ⟨⟨i1, a1, b1, c1⟩, ⟨i2, a2, b2, c2⟩, hall⟩ := h
  obtain ⟨⟨j1, d1, e1, f1⟩, ⟨j2, d2, e2, f2⟩, kall⟩ := k
  have := hall j1 lo' d1 e1 f1
  have := hall j2 hi' d2 e2 f2
  have := kall i1 lo a1 b1 c1
  have := kall i2 hi a2 b2 c2
  omega
theorem spans_not {a b n p lo hi : Int} (h : Spans a b n p lo hi) (k : NoSpan a b n p) : False := by
  obtain ⟨⟨i1, a1, b1, c1⟩, _⟩ := h
  rw [k i1 a1 b1] at c1
  cases c1
/-- the results are determined -/
theorem range_one {a b n p lo hi lo' hi' : Int} {ok ok' : Bool} (h : RangeIs a b n p lo hi ok) (k : RangeIs a b n p lo' hi' ok') : lo = lo' ∧ hi = hi' ∧ ok = ok' := by
  rcases h with ⟨rfl, ha, hb, hs⟩ | ⟨rfl, rfl, rfl, hn⟩
  · rcases k with ⟨rfl, _, _, ks⟩ | ⟨rfl, rfl, rfl, kn⟩
    · obtain ⟨h1, h2⟩ := spans_one hs ks
      exact ⟨h1, h2, rfl⟩
    · rcases kn with kn | kn
      · exact (kn ⟨ha, hb⟩).elim
      · exact (spans_not hs kn).elim
  · rcases k with ⟨rfl, ka, kb, ks⟩ | ⟨rfl, rfl, rfl, kn⟩
    · rcases hn with hn | hn
      · exact (hn ⟨ka, kb⟩).elim
      · exact (spans_not ks hn).elim
    · exact ⟨rfl, rfl, rfl⟩
/-- a scan from a up to i: what is known of the least and the greatest one so far -/
def Scan (a i n p lo hi : Int) (f : Bool) : Prop := (f = true ∧ Spans a i n p lo hi) ∨ (f = false ∧ lo = 0 ∧ hi = 0 ∧ NoSpan a i n p)
theorem scan_start (a n p : Int) : Scan a a n p 0 0 false := .inr ⟨rfl, rfl, rfl, fun i h1 h2 => by omega⟩
theorem scan_skip {a i n p lo hi : Int} {f : Bool} (h : Scan a i n p lo hi f) (hi' : a ≤ i) (hk : idxO i n p = none) : Scan a (i + 1) n p lo hi f := by
  rcases h with ⟨rfl, ⟨i1, a1, b1, c1⟩, ⟨i2, a2, b2, c2⟩, hall⟩ | ⟨rfl, rfl, rfl, hn⟩
  · refine .inl ⟨rfl, ⟨i1, a1, by omega, c1⟩, ⟨i2, a2, by omega, c2⟩, fun j k h1 h2 h3 => ?_⟩
    by_cases e : j = i
    · subst e; rw [hk] at h3; cases h3
    · exact hall j k h1 (by omega) h3
  · refine .inr ⟨rfl, rfl, rfl, fun j h1 h2 => ?_⟩
    by_cases e : j = i
    · subst e; exact hk
    · exact hn j h1 (by omega)
theorem scan_some {a i n p lo hi k lo' hi' : Int} {f : Bool} (h : Scan a i n p lo hi f) (ha : a ≤ i) (hk : idxO i n p = some k)
    (hl : lo' = if f = false ∨ k < lo then k else lo) (hh : hi' = if f = false ∨ k > hi then k else hi) : Scan a (i + 1) n p lo' hi' true := by
  rcases h with ⟨rfl, ⟨i1, a1, b1, c1⟩, ⟨i2, a2, b2, c2⟩, hall⟩ | ⟨rfl, rfl, rfl, hn⟩
  · simp only [Bool.true_eq_false, false_or] at hl hh
    have x1 := hall i1 lo a1 b1 c1
    have x2 := hall i2 hi a2 b2 c2
    refine .inl ⟨rfl, ?_, ?_, fun j q h1 h2 h3 => ?_⟩
    · split at hl
      · exact ⟨i, ha, by omega, by rw [hl]; exact hk⟩
      · exact ⟨i1, a1, by omega, by rw [hl]; exact c1⟩
    · split at hh
      · exact ⟨i, ha, by omega, by rw [hh]; exact hk⟩
      · exact ⟨i2, a2, by omega, by rw [hh]; exact c2⟩
    · by_cases e : j = i
      · subst e
        rw [hk] at h3
        simp only [Option.some.injEq] at h3
        split at hl <;> split at hh <;> omega
      · have := hall j q h1 (by omega) h3
        split at hl <;> split at hh <;> omega
  · simp only [true_or, if_true] at hl hh
    subst hl; subst hh
    refine .inl ⟨rfl, ⟨i, ha, by omega, hk⟩, ⟨i, ha, by omega, hk⟩, fun j q h1 h2 h3 => ?_⟩
    by_cases e : j = i
    · subst e; rw [hk] at h3; simp only [Option.some.injEq] at h3; omega
    · rw [hn j h1 (by omega)] at h3; cases h3
/-- a scan over the whole range gives the results -/
theorem scan_end {a b n p lo hi : Int} {f : Bool} (ha : InC a) (hb : InC b) (h : Scan a b n p lo hi f) : RangeIs a b n p lo hi f := by
  rcases h with ⟨rfl, hs⟩ | ⟨rfl, rfl, rfl, hn⟩
  · exact .inl ⟨rfl, ha, hb, hs⟩
  · exact .inr ⟨rfl, rfl, rfl, .inr hn⟩
theorem scan_none {a b n p : Int} (h : b ≤ a) : Scan a b n p 0 0 false := .inr ⟨rfl, rfl, rfl, fun i h1 h2 => by omega⟩
/-- two ranges that are mapped to the same coordinates -/
theorem scan_like {a b a' b' n p lo hi : Int} {f : Bool} (h1 : ∀ i, a ≤ i → i < b → ∃ j, a' ≤ j ∧ j < b' ∧ idxO j n p = idxO i n p) (h2 : ∀ i, a' ≤ i → i < b' → ∃ j, a ≤ j ∧ j < b ∧ idxO j n p = idxO i n p)
    (h : Scan a' b' n p lo hi f) : Scan a b n p lo hi f := by
  rcases h with ⟨rfl, ⟨i1, a1, b1, c1⟩, ⟨i2, a2, b2, c2⟩, hall⟩ | ⟨rfl, rfl, rfl, hn⟩
  · obtain ⟨j1, d1, e1, f1⟩ := h2 i1 a1 b1
    obtain ⟨j2, d2, e2, f2⟩ := h2 i2 a2 b2
    refine .inl ⟨rfl, ⟨j1, d1, e1, by rw [f1]; exact c1⟩, ⟨j2, d2, e2, by rw [f2]; exact c2⟩, fun i k g1 g2 g3 => ?_⟩
    obtain ⟨j, d, e, f⟩ := h1 i g1 g2
    exact hall j k d e (by rw [f]; exact g3)
  · refine .inr ⟨rfl, rfl, rfl, fun i g1 g2 => ?_⟩
    obtain ⟨j, d, e, f⟩ := h1 i g1 g2
    rw [← f]; exact hn j d e
theorem idx_period {i n p : Int} (t : Int) (hp : p = 1 ∨ p = 2) : idxO (i + 2 * n * t) n p = idxO i n p := by
  unfold idxO
  have e1 : (i + 2 * n * t) % (2 * n) = i % (2 * n) := Int.add_mul_emod_self_left _ _ _
  have e2 : (i + 2 * n * t) % n = i % n := by rw [show 2 * n * t = n * (2 * t) by grind]; exact Int.add_mul_emod_self_left _ _ _
  rcases hp with rfl | rfl
  · simp [e1]
  · simp [e2]
/-- two whole periods say all of a longer range -/
theorem scan_period {a b n p lo hi : Int} {f : Bool} (hn : 1 ≤ n) (hp : p = 1 ∨ p = 2) (hlen : a + 2 * n ≤ b) (h : Scan a (a + 2 * n) n p lo hi f) : Scan a b n p lo hi f := by
  refine scan_like (fun i h1 h2 => ?_) (fun i h1 h2 => ⟨i, h1, by omega, rfl⟩) h
  have m0 := Int.emod_nonneg (i - a) (show (2 * n) ≠ 0 by omega)
  have m1 := Int.emod_lt_of_pos (i - a) (show 0 < 2 * n by omega)
  refine ⟨a + (i - a) % (2 * n), by omega, by omega, ?_⟩
  have e : i = a + (i - a) % (2 * n) + 2 * n * ((i - a) / (2 * n)) := by
    have := Int.emod_add_mul_ediv (i - a) (2 * n)
    omega
  rw [show idxO i n p = idxO (a + (i - a) % (2 * n) + 2 * n * ((i - a) / (2 * n))) n p by rw [← e]]
  exact (idx_period _ hp).symm
theorem scan_clamp_low {a b n p lo hi : Int} {f : Bool} (hp : p = 0 ∨ p = 3) (hab : a < b) (hb : b - 1 < 0) (h : Scan (b - 1) b n p lo hi f) : Scan a b n p lo hi f := by
  refine scan_like (fun i h1 h2 => ⟨b - 1, by omega, by omega, ?_⟩) (fun i h1 h2 => ⟨i, by omega, h2, rfl⟩) h
  rcases hp with rfl | rfl
  · unfold idxO; split
    · rw [if_pos rfl, if_pos rfl]; congr 1; omega
    · rfl
  · rw [idx_out (by omega), idx_out (by omega)]
theorem scan_clamp_high {a b n p lo hi : Int} {f : Bool} (hp : p = 0 ∨ p = 3) (hn : 1 ≤ n) (hab : a < b) (ha : n ≤ a) (h : Scan a (a + 1) n p lo hi f) : Scan a b n p lo hi f := by
  refine scan_like (fun i h1 h2 => ⟨a, by omega, by omega, ?_⟩) (fun i h1 h2 => ⟨i, h1, by omega, rfl⟩) h
  rcases hp with rfl | rfl
  · unfold idxO; split
    · rw [if_pos rfl, if_pos rfl]; congr 1; omega
    · rfl
  · rw [idx_out (by omega), idx_out (by omega)]
theorem scan_clamp_mid {a b n p lo hi : Int} {f : Bool} (hp : p = 0 ∨ p = 3) (hn : 1 ≤ n) (hab : a < b) (ha : a < n) (hb : 0 ≤ b - 1) (h : Scan (max a (-1)) (min b (n + 1)) n p lo hi f) : Scan a b n p lo hi f := by
  refine scan_like (fun i h1 h2 => ⟨max (-1) (min i n), by omega, by omega, ?_⟩) (fun i h1 h2 => ⟨i, by omega, by omega, rfl⟩) h
  rcases hp with rfl | rfl
  · unfold idxO; split
    · rw [if_pos rfl, if_pos rfl]; congr 1; omega
    · rfl
  · by_cases g : 0 ≤ i ∧ i < n
    · rw [show max (-1) (min i n) = i by omega]
    · rw [idx_out (by omega), idx_out (by omega)]
open Go.ChangeShapes Go.WideShapes Go.ChangeAt Go.RowKit
set_option linter.unusedVariables false
set_option linter.unusedSimpArgs false

theorem ret_ib {a b : Int} {c d : Bool} (h : a = b ∧ c = d) : Ending.returned (.tuple #[.int .i64 a, .bool c]) = .returned (.tuple #[.int .i64 b, .bool d]) := by rw [h.1, h.2]
/-- a test came back, and nothing changed -/
def TestSame (v : Bool) (w : World) (e : Ending) (w' : World) : Prop := e = .returned (.bool v) ∧ w = w'
/-- a number came back, and nothing changed -/
def NumSame (v : Int) (w : World) (e : Ending) (w' : World) : Prop := e = .returned (.int .i64 v) ∧ w = w'
/-- to what a coordinate is mapped, if at all, and nothing changed -/
def IdxPost (i n p : Int) (w : World) (e : Ending) (w' : World) : Prop := e = .returned (.tuple #[.int .i64 (idxN i n p), .bool (idxB i n p)]) ∧ w = w'
def lenB (n : Int) : Bool := decide (1 ≤ n ∧ n ≤ 128)
theorem lenB_t {n : Int} : lenB n = true ↔ (1 ≤ n ∧ n ≤ 128) := by simp [lenB]
theorem lenB_f {n : Int} : lenB n = false ↔ (n < 1 ∨ 128 < n) := by simp [lenB]; omega
def bcoordB (a : Int) : Bool := decide (-1048576 ≤ a ∧ a ≤ 1048576)
theorem bcoordB_t {a : Int} : bcoordB a = true ↔ InC a := by simp [bcoordB, InC]
theorem bcoordB_f {a : Int} : bcoordB a = false ↔ ¬ InC a := by simp [bcoordB, InC]
theorem len_any (n : Int) (w : World) : Calls Try.prog 72 #[.int .i64 n] w (TestSame (lenB n) w) := by
  go_enter Try.func72, Try.ntmps72
  go_wp2
  all_goals
    go_ret
    refine ⟨ret_bool ?_, rfl⟩
    rw [Bool.eq_iff_iff]; simp [lenB] <;> omega
theorem modulo_any (v n : Int) (w : World) (h0 : 0 < n) (h1 : n ≤ 9223372036854775807) (h2 : -9223372036854775808 ≤ v) (h3 : v ≤ 9223372036854775807) :
    Calls Try.prog 73 #[.int .i64 v, .int .i64 n] w (NumSame (v % n) w) := by
  have hb := tmod_bd v n h0
  by_cases h : v.tmod n < 0
  · have H := Lib.hid (emod_of_neg v n h0 h)
    go_enter Try.func73, Try.ntmps73
    go_wp2
    go_ret
    exact ⟨ret_int H.out, rfl⟩
  · have H := Lib.hid (emod_of_pos v n h0 (by omega))
    go_enter Try.func73, Try.ntmps73
    go_wp2
    go_ret
    exact ⟨ret_int H.out, rfl⟩
theorem rmod_any (v n : Int) (w : World) (h0 : 0 < n) (h1 : n ≤ 9223372036854775807) (h2 : -9223372036854775808 ≤ v) (h3 : v ≤ 9223372036854775807) :
    Calls Try.prog 71 #[.int .i64 v, .int .i64 n] w (NumSame (v % n) w) := by
  have hb := tmod_bd v n h0
  by_cases h : v.tmod n < 0
  · have H := Lib.hid (emod_of_neg v n h0 h)
    go_enter Try.func71, Try.ntmps71
    go_wp2
    go_ret
    exact ⟨ret_int H.out, rfl⟩
  · have H := Lib.hid (emod_of_pos v n h0 (by omega))
    go_enter Try.func71, Try.ntmps71
    go_wp2
    go_ret
    exact ⟨ret_int H.out, rfl⟩

open Go.ChangeShapes Go.WideShapes Go.ChangeAt Go.RowKit
set_option linter.unusedVariables false
set_option linter.unusedSimpArgs false

theorem index_len (i n p : Int) (w : World) (h : n < 1 ∨ 128 < n) :
    Calls Try.prog 69 #[.int .i64 i, .int .i64 n, .int .i64 p] w (IdxPost i n p w) := by
  have hs' := Lib.hid (lenB_f.2 h)
  clear h
  go_enter Try.func69, Try.ntmps69
  go_wp2_with fail
  refine (len_any _ _).mono ?_; rintro e w1 ⟨rfl, rfl⟩; simp only [hs'.out]
  go_wp2_with fail
  go_ret2
  exact ⟨ret_ib (idx_no (idx_len (lenB_f.1 hs'.out))), rfl⟩
theorem index_clamp (i n : Int) (w : World) (n1 : 1 ≤ n) (n2 : n ≤ 128) (i0 : -9223372036854775808 ≤ i) (i1 : i ≤ 9223372036854775807) :
    Calls Try.prog 69 #[.int .i64 i, .int .i64 n, .int .i64 0] w (IdxPost i n 0 w) := by
  have hs' := Lib.hid (lenB_t.2 ⟨n1, n2⟩)
  go_enter Try.func69, Try.ntmps69
  go_wp2_with fail
  refine (len_any _ _).mono ?_; rintro e w1 ⟨rfl, rfl⟩; simp only [hs'.out]
  go_wp2_with fail
  all_goals
    go_ret2
    refine ⟨ret_ib (idx_at ((idx_clamp n1 n2).trans (congrArg some ?_))), rfl⟩; omega
theorem index_wrap (i n : Int) (w : World) (n1 : 1 ≤ n) (n2 : n ≤ 128) (i0 : -9223372036854775808 ≤ i) (i1 : i ≤ 9223372036854775807) :
    Calls Try.prog 69 #[.int .i64 i, .int .i64 n, .int .i64 2] w (IdxPost i n 2 w) := by
  have hs' := Lib.hid (lenB_t.2 ⟨n1, n2⟩)
  go_enter Try.func69, Try.ntmps69
  go_wp2_with fail
  refine (len_any _ _).mono ?_; rintro e w1 ⟨rfl, rfl⟩; simp only [hs'.out]
  go_wp2_with fail
  refine (modulo_any i n _ (by omega) (by omega) i0 i1).mono ?_; rintro e w1 ⟨rfl, rfl⟩
  go_wp2_with fail
  go_ret2
  exact ⟨ret_ib (idx_at (idx_wrap n1 n2)), rfl⟩
theorem index_const (i n : Int) (w : World) (n1 : 1 ≤ n) (n2 : n ≤ 128) (i0 : -9223372036854775808 ≤ i) (i1 : i ≤ 9223372036854775807) :
    Calls Try.prog 69 #[.int .i64 i, .int .i64 n, .int .i64 3] w (IdxPost i n 3 w) := by
  have hs' := Lib.hid (lenB_t.2 ⟨n1, n2⟩)
  go_enter Try.func69, Try.ntmps69
  go_wp2_with fail
  refine (len_any _ _).mono ?_; rintro e w1 ⟨rfl, rfl⟩; simp only [hs'.out]
  go_wp2_with fail
  all_goals
    go_ret2
    first
      | exact ⟨ret_ib (idx_no (idx_out (by omega))), rfl⟩
      | exact ⟨ret_ib (idx_at (idx_const n1 n2 (by omega) (by omega))), rfl⟩
theorem index_other (i n p : Int) (w : World) (n1 : 1 ≤ n) (n2 : n ≤ 128) (hp : p < 0 ∨ 3 < p) :
    Calls Try.prog 69 #[.int .i64 i, .int .i64 n, .int .i64 p] w (IdxPost i n p w) := by
  have hs' := Lib.hid (lenB_t.2 ⟨n1, n2⟩)
  go_enter Try.func69, Try.ntmps69
  go_wp2_with fail
  refine (len_any _ _).mono ?_; rintro e w1 ⟨rfl, rfl⟩; simp only [hs'.out]
  go_wp2_with fail
  all_goals
    go_ret2
    exact ⟨ret_ib (idx_no (idx_pol hp)), rfl⟩
theorem index_mirror (i n : Int) (w : World) (n1 : 1 ≤ n) (n2 : n ≤ 128) (i0 : -9223372036854775808 ≤ i) (i1 : i ≤ 9223372036854775807) :
    Calls Try.prog 69 #[.int .i64 i, .int .i64 n, .int .i64 1] w (IdxPost i n 1 w) := by
  have hs' := Lib.hid (lenB_t.2 ⟨n1, n2⟩)
  go_enter Try.func69, Try.ntmps69
  go_wp2_with fail
  refine (len_any _ _).mono ?_; rintro e w1 ⟨rfl, rfl⟩; simp only [hs'.out]
  go_wp2_with fail
  refine (modulo_any i (2 * n) _ (by omega) (by omega) i0 i1).mono ?_; rintro e w1 ⟨rfl, rfl⟩
  have m0 := Int.emod_nonneg i (show (2 * n) ≠ 0 by omega)
  have m1 := Int.emod_lt_of_pos i (show 0 < 2 * n by omega)
  have eM := Lib.hid (idx_mirror (i := i) n1 n2)
  generalize i % (2 * n) = M at *
  go_wp2_with fail
  all_goals
    go_ret2
    refine ⟨ret_ib (idx_at (eM.out.trans (congrArg some ?_))), rfl⟩; split <;> omega
theorem index_any (i n p : Int) (w : World) (i0 : -9223372036854775808 ≤ i) (i1 : i ≤ 9223372036854775807) : Calls Try.prog 69 #[.int .i64 i, .int .i64 n, .int .i64 p] w (IdxPost i n p w) := by
  by_cases h : n < 1 ∨ 128 < n
  · exact index_len i n p w h
  · by_cases hp : p < 0 ∨ 3 < p
    · exact index_other i n p w (by omega) (by omega) hp
    · rcases (show p = 0 ∨ p = 1 ∨ p = 2 ∨ p = 3 by omega) with rfl | rfl | rfl | rfl
      · exact index_clamp i n w (by omega) (by omega) i0 i1
      · exact index_mirror i n w (by omega) (by omega) i0 i1
      · exact index_wrap i n w (by omega) (by omega) i0 i1
      · exact index_const i n w (by omega) (by omega) i0 i1
open Go.ChangeShapes Go.WideShapes Go.ChangeAt Go.RowKit
set_option linter.unusedVariables false
set_option linter.unusedSimpArgs false

theorem rindex_len (i n p : Int) (w : World) (h : n < 1 ∨ 128 < n) :
    Calls Try.prog 66 #[.int .i64 i, .int .i64 n, .int .i64 p] w (IdxPost i n p w) := by
  go_enter Try.func66, Try.ntmps66
  go_wp2_with fail
  all_goals
    go_ret2
    exact ⟨ret_ib (idx_no (idx_len (by omega))), rfl⟩
theorem rindex_clamp (i n : Int) (w : World) (n1 : 1 ≤ n) (n2 : n ≤ 128) (i0 : -9223372036854775808 ≤ i) (i1 : i ≤ 9223372036854775807) :
    Calls Try.prog 66 #[.int .i64 i, .int .i64 n, .int .i64 0] w (IdxPost i n 0 w) := by
  go_enter Try.func66, Try.ntmps66
  go_wp2_with fail
  all_goals
    go_ret2
    refine ⟨ret_ib (idx_at ((idx_clamp n1 n2).trans (congrArg some ?_))), rfl⟩; omega
theorem rindex_wrap (i n : Int) (w : World) (n1 : 1 ≤ n) (n2 : n ≤ 128) (i0 : -9223372036854775808 ≤ i) (i1 : i ≤ 9223372036854775807) :
    Calls Try.prog 66 #[.int .i64 i, .int .i64 n, .int .i64 2] w (IdxPost i n 2 w) := by
  go_enter Try.func66, Try.ntmps66
  go_wp2_with fail
  refine (rmod_any i n _ (by omega) (by omega) i0 i1).mono ?_; rintro e w1 ⟨rfl, rfl⟩
  go_wp2_with fail
  go_ret2
  exact ⟨ret_ib (idx_at (idx_wrap n1 n2)), rfl⟩
theorem rindex_const (i n : Int) (w : World) (n1 : 1 ≤ n) (n2 : n ≤ 128) (i0 : -9223372036854775808 ≤ i) (i1 : i ≤ 9223372036854775807) :
    Calls Try.prog 66 #[.int .i64 i, .int .i64 n, .int .i64 3] w (IdxPost i n 3 w) := by
  go_enter Try.func66, Try.ntmps66
  go_wp2_with fail
  all_goals
    go_ret2
    first
      | exact ⟨ret_ib (idx_no (idx_out (by omega))), rfl⟩
      | exact ⟨ret_ib (idx_at (idx_const n1 n2 (by omega) (by omega))), rfl⟩
theorem rindex_other (i n p : Int) (w : World) (n1 : 1 ≤ n) (n2 : n ≤ 128) (hp : p < 0 ∨ 3 < p) :
    Calls Try.prog 66 #[.int .i64 i, .int .i64 n, .int .i64 p] w (IdxPost i n p w) := by
  go_enter Try.func66, Try.ntmps66
  go_wp2_with fail
  all_goals
    go_ret2
    exact ⟨ret_ib (idx_no (idx_pol hp)), rfl⟩
theorem rindex_mirror (i n : Int) (w : World) (n1 : 1 ≤ n) (n2 : n ≤ 128) (i0 : -9223372036854775808 ≤ i) (i1 : i ≤ 9223372036854775807) :
    Calls Try.prog 66 #[.int .i64 i, .int .i64 n, .int .i64 1] w (IdxPost i n 1 w) := by
  go_enter Try.func66, Try.ntmps66
  go_wp2_with fail
  refine (rmod_any i (2 * n) _ (by omega) (by omega) i0 i1).mono ?_; rintro e w1 ⟨rfl, rfl⟩
  have m0 := Int.emod_nonneg i (show (2 * n) ≠ 0 by omega)
  have m1 := Int.emod_lt_of_pos i (show 0 < 2 * n by omega)
  have eM := Lib.hid (idx_mirror (i := i) n1 n2)
  obtain ⟨M, eM2⟩ : ∃ M, i % (2 * n) = M := ⟨_, rfl⟩
  have eM3 := Lib.hid eM2
  rw [eM2] at m0 m1
  simp only [eM2]
  clear eM2
  go_wp2_with (refine (rmod_any i (2 * n) _ (by omega) (by omega) i0 i1).mono ?_; rintro e w1 ⟨rfl, rfl⟩; simp only [eM3.out])
  all_goals
    go_ret2
    refine ⟨ret_ib (idx_at (eM.out.trans (congrArg some ?_))), rfl⟩; rw [eM3.out]; split <;> omega
theorem rindex_any (i n p : Int) (w : World) (i0 : -9223372036854775808 ≤ i) (i1 : i ≤ 9223372036854775807) : Calls Try.prog 66 #[.int .i64 i, .int .i64 n, .int .i64 p] w (IdxPost i n p w) := by
  by_cases h : n < 1 ∨ 128 < n
  · exact rindex_len i n p w h
  · by_cases hp : p < 0 ∨ 3 < p
    · exact rindex_other i n p w (by omega) (by omega) hp
    · rcases (show p = 0 ∨ p = 1 ∨ p = 2 ∨ p = 3 by omega) with rfl | rfl | rfl | rfl
      · exact rindex_clamp i n w (by omega) (by omega) i0 i1
      · exact rindex_mirror i n w (by omega) (by omega) i0 i1
      · exact rindex_wrap i n w (by omega) (by omega) i0 i1
      · exact rindex_const i n w (by omega) (by omega) i0 i1
open Go.ChangeShapes Go.WideShapes Go.ChangeAt Go.RowKit
set_option linter.unusedVariables false
set_option linter.unusedSimpArgs false

theorem edge_any (q f m : Int) (w : World) : Calls Try.prog 36 #[.agg #[.int .i64 q, .int .i64 f], .int .i64 m] w (TestPost (edgeB q f m) w) := by
  go_enter Try.func36, Try.ntmps36
  go_wp2
  all_goals
    go_ret
    refine ⟨ret_bool ?_, balloc (bref _) _⟩
    rw [Bool.eq_iff_iff, edgeB_t]; simp at * <;> omega
theorem redge_any (q f m : Int) (w : World) : Calls Try.prog 44 #[.agg #[.int .i64 q, .int .i64 f], .int .i64 m] w (TestPost (edgeB q f m) w) := by
  go_enter Try.func44, Try.ntmps44
  go_wp2
  all_goals
    go_ret
    refine ⟨ret_bool ?_, balloc (bref _) _⟩
    rw [Bool.eq_iff_iff, edgeB_t]; simp at * <;> omega
theorem edge_is {q f m : Int} {v : Bool} (w : World) (h : edgeB q f m = v) : Calls Try.prog 36 #[.agg #[.int .i64 q, .int .i64 f], .int .i64 m] w (TestPost v w) := by
  rw [← h]; exact edge_any q f m w
theorem index_is {i n p k : Int} {v : Bool} (w : World) (i0 : -9223372036854775808 ≤ i) (i1 : i ≤ 9223372036854775807) (h1 : idxN i n p = k) (h2 : idxB i n p = v) :
    Calls Try.prog 69 #[.int .i64 i, .int .i64 n, .int .i64 p] w fun e w' => e = .returned (.tuple #[.int .i64 k, .bool v]) ∧ w = w' := by
  rw [← h1, ← h2]; exact index_any i n p w i0 i1
theorem idx_val {i n p k : Int} (h : idxO i n p = some k) : idxN i n p = k ∧ idxB i n p = true := by simp [idxN, idxB, h]
set_option linter.unusedVariables false

theorem idx_self {i n p : Int} (h1 : 1 ≤ n) (h2 : n ≤ 128) (h3 : 0 ≤ i) (h4 : i < n) (hp : 0 ≤ p ∧ p ≤ 3) : idxO i n p = some i := by
  have e1 : i % (2 * n) = i := Int.emod_eq_of_lt h3 (by omega)
  have e2 : i % n = i := Int.emod_eq_of_lt h3 h4
  rcases (show p = 0 ∨ p = 1 ∨ p = 2 ∨ p = 3 by omega) with rfl | rfl | rfl | rfl
  · rw [idx_clamp h1 h2]; congr 1; omega
  · rw [idx_mirror h1 h2, e1, if_neg (by omega)]
  · rw [idx_wrap h1 h2, e2]
  · exact idx_const h1 h2 h3 h4
/-- a coordinate by its place in a double period -/
theorem mirror_place {i n r t : Int} (h1 : 1 ≤ n) (h2 : n ≤ 128) (hr : 0 ≤ r ∧ r < 2 * n) (e : i = r + 2 * n * t) : idxO i n 1 = some (if n ≤ r then 2 * n - 1 - r else r) := by
  have hm : i % (2 * n) = r := by rw [e, Int.add_mul_emod_self_left]; exact Int.emod_eq_of_lt hr.1 hr.2
  rw [idx_mirror h1 h2, hm]
theorem mirror_parts (i n : Int) (h1 : 1 ≤ n) : ∃ r t, (0 ≤ r ∧ r < 2 * n) ∧ i = r + 2 * n * t :=
  ⟨i % (2 * n), i / (2 * n), ⟨Int.emod_nonneg _ (by omega), Int.emod_lt_of_pos _ (by omega)⟩, (Int.emod_add_mul_ediv i (2 * n)).symm⟩
theorem mirror_low {i n : Int} (h1 : 1 ≤ n) (h2 : n ≤ 128) : idxO (-1 - i) n 1 = idxO i n 1 := by
  obtain ⟨r, t, hr, e⟩ := mirror_parts i n h1
  have e' : -1 - i = (2 * n - 1 - r) + 2 * n * (-1 - t) := by rw [e]; grind
  rw [mirror_place h1 h2 hr e, mirror_place h1 h2 (by omega) e']
  congr 1
  split <;> split <;> omega
theorem mirror_high {i n : Int} (h1 : 1 ≤ n) (h2 : n ≤ 128) : idxO (2 * n - 1 - i) n 1 = idxO i n 1 := by
  obtain ⟨r, t, hr, e⟩ := mirror_parts i n h1
  have e' : 2 * n - 1 - i = (2 * n - 1 - r) + 2 * n * (-t) := by rw [e]; grind
  rw [mirror_place h1 h2 hr e, mirror_place h1 h2 (by omega) e']
  congr 1
  split <;> split <;> omega
theorem mirror_next {i n x y : Int} (h1 : 1 ≤ n) (h2 : n ≤ 128) (hx : idxO i n 1 = some x) (hy : idxO (i + 1) n 1 = some y) : y - x ≤ 1 ∧ x - y ≤ 1 := by
  obtain ⟨r, t, hr, e⟩ := mirror_parts i n h1
  rw [mirror_place h1 h2 hr e] at hx
  simp only [Option.some.injEq] at hx
  by_cases g : r + 1 < 2 * n
  · rw [mirror_place (r := r + 1) (t := t) h1 h2 (by omega) (by rw [e]; grind)] at hy
    simp only [Option.some.injEq] at hy
    split at hx <;> split at hy <;> omega
  · have g2 : r + 1 = 2 * n := by omega
    have e2 : i + 1 = 0 + 2 * n * (t + 1) := by rw [e]; grind
    rw [mirror_place (r := 0) (t := t + 1) h1 h2 (by omega) e2] at hy
    simp only [Option.some.injEq] at hy
    split at hx <;> split at hy <;> omega
theorem wrap_shift {i n : Int} : idxO (i - n) n 2 = idxO i n 2 := by
  unfold idxO
  simp
theorem clamp_next {i n x y : Int} (hx : idxO i n 0 = some x) (hy : idxO (i + 1) n 0 = some y) : y = x ∨ y = x + 1 := by
  obtain ⟨_, _, ⟨h1, h2⟩, _⟩ := idx_bd hx
  rw [idx_clamp h1 h2, Option.some.injEq] at hx hy
  omega
theorem idx_there {i n p : Int} (h1 : 1 ≤ n) (h2 : n ≤ 128) (hp : 0 ≤ p ∧ p ≤ 2) : ∃ k, idxO i n p = some k := by
  rcases (show p = 0 ∨ p = 1 ∨ p = 2 by omega) with rfl | rfl | rfl
  · exact ⟨_, idx_clamp h1 h2⟩
  · exact ⟨_, idx_mirror h1 h2⟩
  · exact ⟨_, idx_wrap h1 h2⟩
end Go.Proofs.Ytibmoibhbgbfoaa
