/- The contract of the tape's SpoilPlane. -/
import Derived.Test.YtpmajophkhihlaaPSpoil
import Derived.Deep.DeepMust
import Derived.Deep.RegionHeld3
namespace Go.Proofs.Ytpmajophkhihlaa
open Go.ChangeShapes Go.WideShapes Go.ChangeAt Go.RowKit
set_option linter.unusedVariables false
set_option linter.unusedSimpArgs false

theorem pick_four' (W : World) (p : Nat) (a : Option Addr) (cap : Nat) (xs : List Int) (y0 y1 y2 y3 : Int) (s c : Nat) (w : World) (h : TapeSome W w p a cap xs) (hsp : ¬ s = p)
    (h0 : w.cell? ⟨s, 0, none⟩ = some (.int .i64 y0)) (h1 : w.cell? ⟨s, 1, none⟩ = some (.int .i64 y1)) (h2 : w.cell? ⟨s, 2, none⟩ = some (.int .i64 y2)) (h3 : w.cell? ⟨s, 3, none⟩ = some (.int .i64 y3)) :
    Calls Try.prog 32 #[.pointer (some ⟨p, 0, none⟩), .slice (some ⟨s, 0, none⟩) 4 c] w
      fun e w' => ∃ m : Int, e = .returned (.int .i64 m) ∧ (m = y0 ∨ m = y1 ∨ m = y2 ∨ m = y3) ∧ TapeSome W w' p a cap xs ∧ w.grownBy w' (some p) := by
  have := pick_some W p a cap xs s c [y0, y1, y2, y3] w h hsp (by simp) (by simp) (by
    intro j hj
    simp at hj
    rcases (show j = 0 ∨ j = 1 ∨ j = 2 ∨ j = 3 by omega) with rfl | rfl | rfl | rfl <;> simpa)
  refine this.mono fun e w' ⟨m, he, hm, hT, hg⟩ => ⟨m, he, ?_, hT, hg⟩
  simpa using hm
theorem SpS.drewn {W w : World} {p : Nat} {a : Option Addr} {cap : Nat} {xs : List Int} {g k : Nat} {L : List Int} {v0 v1 v2 v3 : Value} {w1 : World} (h : SpS W w p a cap xs g k L v0 v1 v2 v3 w1) : SpS W w p a cap xs g k L v0 v1 v2 v3 w1.drew :=
  h.call h.tape.drewn (gdrew (gref w1 _))
/-- a pixel is written -/
theorem SpS.pixel {W w : World} {p : Nat} {a : Option Addr} {cap : Nat} {xs : List Int} {g k : Nat} {L : List Int} {v0 v1 v2 v3 : Value} {w1 : World} (h : SpS W w p a cap xs g k L v0 v1 v2 v3 w1) (j : Nat) (u : Int) :
    SpS W w p a cap xs g k (L.set j u) v0 v1 v2 v3 (w1.setCell ⟨g, j, none⟩ (.int .i64 u)) := by
  obtain ⟨⟨f1, f2⟩, f3, f4⟩ := h.far
  have hg := grown_set w1 g j (.int .i64 u)
  exact ⟨h.tape.grown (by omega) (by omega) _ _, gset h.grown (.inl (by omega)) _ _, h.box.grown hg (by simp; omega), h.op.set _ _, (h.pix.store j u).1, h.far⟩
/-- while a pixel is drawn: the fields that are read, every pixel's cell, and hidden all the rest -/
abbrev SpR (W w : World) (p : Nat) (a : Option Addr) (cap : Nat) (xs : List Int) (g k n : Nat) (c h m : Int) (w' : World) : Prop :=
  Hid (∃ L : List Int, L.length = n ∧ SpS W w p a cap xs g k L (.int .i64 c) (.int .i64 h) (.int .i64 m) (.slice (some ⟨g, 0, none⟩) n k) w') ∧ w'.cell? ⟨w.heap.size, 2, none⟩ = some (.int .i64 m) ∧ w'.cell? ⟨w.heap.size, 3, none⟩ = some (.slice (some ⟨g, 0, none⟩) n k)
theorem spr_at {W w : World} {p : Nat} {a : Option Addr} {cap : Nat} {xs : List Int} {g k n : Nat} {c h m : Int} {w1 : World} (hR : SpR W w p a cap xs g k n c h m w1) {j : Nat} (hj : (j : Int) < n) : w1.cell? ⟨g, j, none⟩ = some (valAt w1 g j) ∧ w1.frozen? ⟨g, j, none⟩ = false := by
  obtain ⟨L, hn, hS⟩ := hR.1.out
  exact ⟨szS_val (hS.pix.cell (k := j) (by omega)), hS.pix.frozen j⟩
theorem spr_of {W w : World} {p : Nat} {a : Option Addr} {cap : Nat} {xs : List Int} {g k n : Nat} {L : List Int} {c h m : Int} {w1 : World} (hn : L.length = n) (hS : SpS W w p a cap xs g k L (.int .i64 c) (.int .i64 h) (.int .i64 m) (.slice (some ⟨g, 0, none⟩) n k) w1) : SpR W w p a cap xs g k n c h m w1 :=
  ⟨Lib.hid ⟨L, hn, hS⟩, hS.box.1.2.2.1, hS.box.1.2.2.2⟩
theorem spr_call {W w : World} {p : Nat} {a : Option Addr} {cap : Nat} {xs : List Int} {g k n : Nat} {c h m : Int} {w1 w2 : World} (hT : TapeSome W w2 p a cap xs) (hg : w1.grownBy w2 (some p)) (hR : SpR W w p a cap xs g k n c h m w1) : SpR W w p a cap xs g k n c h m w2 := by
  obtain ⟨L, hn, hS⟩ := hR.1.out
  exact spr_of hn (hS.call hT hg)
theorem spr_alloc {W w : World} {p : Nat} {a : Option Addr} {cap : Nat} {xs : List Int} {g k n : Nat} {c h m : Int} {w1 : World} (hR : SpR W w p a cap xs g k n c h m w1) (o : Obj) : SpR W w p a cap xs g k n c h m (w1.alloc o) := by
  obtain ⟨L, hn, hS⟩ := hR.1.out
  exact spr_of hn (hS.alloc o)
theorem spr_drew {W w : World} {p : Nat} {a : Option Addr} {cap : Nat} {xs : List Int} {g k n : Nat} {c h m : Int} {w1 : World} (hR : SpR W w p a cap xs g k n c h m w1) : SpR W w p a cap xs g k n c h m w1.drew := by
  obtain ⟨L, hn, hS⟩ := hR.1.out
  exact spr_of hn hS.drewn
theorem spr_set {W w : World} {p : Nat} {a : Option Addr} {cap : Nat} {xs : List Int} {g k n : Nat} {c h m : Int} {w1 : World} (hR : SpR W w p a cap xs g k n c h m w1) (j : Nat) (u : Int) : SpR W w p a cap xs g k n c h m (w1.setCell ⟨g, j, none⟩ (.int .i64 u)) := by
  obtain ⟨L, hn, hS⟩ := hR.1.out
  exact spr_of (by rw [List.length_set]; exact hn) (hS.pixel j u)
theorem spr_far {W w : World} {p : Nat} {a : Option Addr} {cap : Nat} {xs : List Int} {g k n : Nat} {c h m : Int} {w1 : World} {o : Obj} (hR : SpR W w p a cap xs g k n c h m (w1.alloc o)) : ¬ w1.heap.size = p := by
  obtain ⟨L, hn, hS⟩ := hR.1.out
  have h1 := World.block_lt_of_cell? _ _ hS.box.1.1
  have h2 := hS.far.2.1
  simp at h1
  omega
theorem spr_tape {W w : World} {p : Nat} {a : Option Addr} {cap : Nat} {xs : List Int} {g k n : Nat} {c h m : Int} {w1 : World} (hR : SpR W w p a cap xs g k n c h m w1) : TapeSome W w1 p a cap xs := by
  obtain ⟨L, hn, hS⟩ := hR.1.out
  exact hS.tape
theorem next_nat (W : World) (p : Nat) (a : Option Addr) (cap : Nat) (xs : List Int) (n : Int) (w : World) (h : TapeSome W w p a cap xs) (h0 : 1 ≤ n) (h1 : n ≤ 9223372036854775807) :
    Calls Try.prog 10 #[.pointer (some ⟨p, 0, none⟩), .int .i64 n] w fun e w' => ∃ j : Nat, e = .returned (.int .i64 (j : Int)) ∧ (j : Int) < n ∧ TapeSome W w' p a cap xs ∧ w.grownBy w' (some p) :=
  (next_some W p a cap xs n w h h0 h1).mono fun e w' ⟨m, he, ⟨m0, m1⟩, hT, hg⟩ => ⟨m.toNat, by rw [he]; congr 2; omega, by omega, hT, hg⟩
theorem pick_3 (W : World) (p : Nat) (a : Option Addr) (cap : Nat) (xs : List Int) (y0 y1 y2 : Int) (c : Nat) (w : World) (t : TypeId) (h : TapeSome W (w.alloc (.cells #[.int .i64 y0, .int .i64 y1, .int .i64 y2] t)) p a cap xs) (hsp : ¬ w.heap.size = p) :
    Calls Try.prog 32 #[.pointer (some ⟨p, 0, none⟩), .slice (some ⟨w.heap.size, 0, none⟩) 3 c] (w.alloc (.cells #[.int .i64 y0, .int .i64 y1, .int .i64 y2] t))
      fun e w' => ∃ m : Int, e = .returned (.int .i64 m) ∧ TapeSome W w' p a cap xs ∧ (w.alloc (.cells #[.int .i64 y0, .int .i64 y1, .int .i64 y2] t)).grownBy w' (some p) := by
  have := pick_some W p a cap xs w.heap.size c [y0, y1, y2] _ h hsp (by simp) (by simp) (by
    intro j hj
    simp at hj
    rcases (show j = 0 ∨ j = 1 ∨ j = 2 by omega) with rfl | rfl | rfl <;> simp [World.cell?_alloc_new])
  exact this.mono fun e w' ⟨m, he, hm, hT, hg⟩ => ⟨m, he, hT, hg⟩
theorem pick_spr {W w : World} {p : Nat} {a : Option Addr} {cap : Nat} {xs : List Int} {g k n : Nat} {c h m : Int} {w1 : World} (y0 y1 y2 : Int) (z : Nat) (t : TypeId) (j : Nat) (hj : (j : Int) < n)
    (hR : SpR W w p a cap xs g k n c h m (w1.alloc (.cells #[.int .i64 y0, .int .i64 y1, .int .i64 y2] t))) :
    Calls Try.prog 32 #[.pointer (some ⟨p, 0, none⟩), .slice (some ⟨w1.heap.size, 0, none⟩) 3 z] (w1.alloc (.cells #[.int .i64 y0, .int .i64 y1, .int .i64 y2] t))
      fun e w' => ∃ u : Int, e = .returned (.int .i64 u) ∧ TapeSome W w' p a cap xs ∧ (w1.alloc (.cells #[.int .i64 y0, .int .i64 y1, .int .i64 y2] t)).grownBy w' (some p) ∧ w'.cell? ⟨g, j, none⟩ = some (valAt w' g j) ∧ w'.frozen? ⟨g, j, none⟩ = false :=
  (pick_3 W p a cap xs y0 y1 y2 z w1 t (spr_tape hR) (spr_far hR)).mono fun e w' ⟨u, he, hT, hg⟩ => by
    obtain ⟨h1, h2⟩ := spr_at (spr_call hT hg hR) hj
    exact ⟨u, he, hT, hg, h1, h2⟩
theorem three_at {w1 w4 : World} {p : Nat} {y0 y1 y2 : Value} {t : TypeId} (hg : (w1.alloc (.cells #[y0, y1, y2] t)).grownBy w4 (some p)) (hne : ¬ w1.heap.size = p) :
    w4.cell? ⟨w1.heap.size, 0, none⟩ = some y0 ∧ w4.cell? ⟨w1.heap.size, 1, none⟩ = some y1 ∧ w4.cell? ⟨w1.heap.size, 2, none⟩ = some y2 :=
  ⟨hg.cell (by simp [World.cell?_alloc_new]) (by simpa using hne), hg.cell (by simp [World.cell?_alloc_new]) (by simpa using hne), hg.cell (by simp [World.cell?_alloc_new]) (by simpa using hne)⟩
theorem three_atd {w1 w4 : World} {p : Nat} {y0 y1 y2 : Value} {t : TypeId} (hg : (w1.alloc (.cells #[y0, y1, y2] t)).drew.grownBy w4 (some p)) (hne : ¬ w1.heap.size = p) :
    w4.cell? ⟨w1.heap.size, 0, none⟩ = some y0 ∧ w4.cell? ⟨w1.heap.size, 1, none⟩ = some y1 ∧ w4.cell? ⟨w1.heap.size, 2, none⟩ = some y2 :=
  three_at (t := t) ⟨hg.os, hg.tape, hg.output, hg.size, hg.block⟩ hne
theorem pick_sprB {W w : World} {p : Nat} {a : Option Addr} {cap : Nat} {xs : List Int} {g k n : Nat} {c h m : Int} {w1 : World} (y0 y1 y2 : Int) (s z : Nat) (hs : w1.cell? ⟨s, 0, none⟩ = some (.int .i64 y0) ∧ w1.cell? ⟨s, 1, none⟩ = some (.int .i64 y1) ∧ w1.cell? ⟨s, 2, none⟩ = some (.int .i64 y2)) (hsp : ¬ s = p) (j : Nat) (hj : (j : Int) < n)
    (hR : SpR W w p a cap xs g k n c h m w1) :
    Calls Try.prog 32 #[.pointer (some ⟨p, 0, none⟩), .slice (some ⟨s, 0, none⟩) 3 z] w1
      fun e w' => ∃ u : Int, e = .returned (.int .i64 u) ∧ TapeSome W w' p a cap xs ∧ w1.grownBy w' (some p) ∧ w'.cell? ⟨g, j, none⟩ = some (valAt w' g j) ∧ w'.frozen? ⟨g, j, none⟩ = false :=
  (pick_three W p a cap xs y0 y1 y2 s z w1 (spr_tape hR) hsp hs.1 hs.2.1 hs.2.2).mono fun e w' ⟨u, he, _, hT, hg⟩ => by
    obtain ⟨h1, h2⟩ := spr_at (spr_call hT hg hR) hj
    exact ⟨u, he, hT, hg, h1, h2⟩
theorem grown_fresh {w a b : World} {row : Option Nat} {g : Nat} (h : w.grownBy a row) (k : a.grownBy b (some g)) (hg : w.heap.size ≤ g) : w.grownBy b row :=
  ⟨k.os.trans h.os, k.tape.trans h.tape, k.output.trans h.output, Nat.le_trans h.size k.size, fun i hi hne => (k.block i (Nat.lt_of_lt_of_le hi h.size) (by simp; omega)).trans (h.block i hi hne)⟩
theorem TapeSome.keepg {W w w' : World} {p : Nat} {a : Option Addr} {cap : Nat} {xs : List Int} (h : TapeSome W w p a cap xs) {g : Nat} (hg : w.grownBy w' (some g)) (h1 : W.heap.size ≤ g) (h2 : ¬ g = p) : TapeSome W w' p a cap xs := by
  obtain ⟨k, hk⟩ := h
  exact ⟨k, hk.keep hg (fun q e => by simp at e; subst e; exact ⟨h1, h2⟩)⟩
/-- one more pixel was appended -/
theorem spoil_more {W w : World} {p : Nat} {a : Option Addr} {cap : Nat} {xs : List Int} {g k : Nat} {L : List Int} {v0 v1 v2 v3 : Value} {w3 w4 : World} {g' k' : Nat} {o : Obj} (h : SpS W w p a cap xs g k L v0 v1 v2 v3 w3)
    (hown : w4.ownsRow w.heap.size 3 1 (.slice (some ⟨g', 0, none⟩) (L.length + 1) k') (L.length + 1) (ints L ++ [.int .i64 0])) (hg : (w3.alloc o).grownBy w4 (Value.ownBlock (.slice (some ⟨g, 0, none⟩) L.length k))) (hat : Value.ownBlock (.slice (some ⟨g, 0, none⟩) L.length k) = some g' ∨ g' = w3.heap.size + 1) :
    SpS W w p a cap xs g' k' (L ++ [0]) v0 v1 v2 v3 w4 := by
  obtain ⟨⟨f1, f2⟩, f3, f4⟩ := h.far
  have h1 := h.alloc o
  have hg' : (w3.alloc o).grownBy w4 (some g) := hg
  have hgl := h.pix.lt
  have hpl := h.tape.lt.1
  refine ⟨h1.tape.keepg hg' (by omega) f1, grown_fresh h1.grown hg' (by omega), h1.box.grown hg' (by simp; omega), h1.op.grown hg' (by simp; omega), ?_, ?_⟩
  · unfold PixAt
    simpa [ints] using hown
  · rcases hat with hat | hat
    · simp [Value.ownBlock] at hat; omega
    · omega
theorem spoil_end' {W w : World} {p : Nat} {a : Option Addr} {cap : Nat} {xs : List Int} {g k : Nat} {L : List Int} {c h m : Int} {sl : Option Addr} {K : List Int} {n k2 : Nat} {v0 v1 v2 v3 : Value} {w1 : World} (hn : K.length = n) (hS : SpS W w p a cap xs g k L v0 v1 v2 v3 w1)
    (hsl : SliceIs (put4 w1 (w.heap.size + 1) (.int .i64 c) (.int .i64 h) (.int .i64 m) (.slice sl n k2)) sl K) (hl : K.length ≤ 4097)
    (hc : -9223372036854775808 ≤ c ∧ c ≤ 9223372036854775807) (hh : -9223372036854775808 ≤ h ∧ h ≤ 9223372036854775807) (hm : -9223372036854775808 ≤ m ∧ m ≤ 9223372036854775807) (hfr : ∀ b o, sl = some ⟨b, o, none⟩ → w.heap.size ≤ b) :
    SpoilOf W p a cap xs w (.returned (.agg #[.int .i64 c, .int .i64 h, .int .i64 m, .slice sl n k2])) (put4 w1 (w.heap.size + 1) (.int .i64 c) (.int .i64 h) (.int .i64 m) (.slice sl n k2)) := by
  subst hn; exact spoil_end hS hsl hl hc hh hm hfr
set_option maxHeartbeats 4000000 in
theorem spoil_any (W : World) (p : Nat) (a : Option Addr) (cap : Nat) (xs : List Int) (c h m : Int) (L : List Int) (sl : Option Addr) (c0 : Nat) (w : World) (hT : TapeSome W w p a cap xs) (hs : SliceIs w sl L) (l1 : 1 ≤ L.length) (l2 : L.length ≤ 4096)
    (x0 : 1 ≤ c ∧ c ≤ 128) (x1 : 1 ≤ h ∧ h ≤ 128) (x2 : 1 ≤ m ∧ m ≤ 65535) :
    Calls Try.prog 20 #[.pointer (some ⟨p, 0, none⟩), .agg #[.int .i64 c, .int .i64 h, .int .i64 m, .slice sl L.length c0]] w (SpoilOf W p a cap xs w) := by
  obtain ⟨b, off, rfl, hc⟩ := slice_some hs l1
  have hc' := Lib.hid hc
  have hT' := Lib.hid hT
  have hlt := hT.lt
  obtain ⟨i0, hi, hi0, hi1, hi2⟩ := info_parts infoI
  clear hc hs hT
  have hE := World.ownsRow_lit (base := w.heap.size) (e := 3) (size := 1) ((w.alloc (.cells #[.int .i64 c, .int .i64 h, .int .i64 m, .slice (some ⟨b, off, none⟩) L.length c0] 26)).alloc (.cells #[.int .i64 0, .int .i64 0, .int .i64 0, .slice none 0 0] 26)) #[] 0 (by simp; omega) (by unfold maxLen; omega) (by simp)
  simp only [World.size_alloc] at hE
  have hE' := Lib.hid hE
  clear hE
  go_enter Try.func20, Try.ntmps20
  go_wp2_with (at_builtin; go_must (refine wpList_append_lies _ rfl _ _ _ rfl w.heap.size 3 i0 (.int .i64 0) 1 8 Try.underlying22 hi hi0 hi1 hi2 rfl (by decide) (.slice (some ⟨w.heap.size + 1 + 1, 0, none⟩) 0 0) 0 [] rfl hE'.out ⟨b, off, none⟩ L.length c0 (ints L) rfl (by simp [ints]) (news_ints (fun k hk => by have h0 := hc'.out k hk; rw [(balloc (balloc (balloc (bref w) _) _) _).cell (World.block_lt_of_cell? _ _ h0)]; exact h0)) ints_one (by omega) (by unfold maxLen; omega) (by omega) (by simp; omega) (w.heap.size + 1 + 1 + 1) (by simp) ?_; intro g k w1 hown hgrow hat hltg; obtain ⟨q0, q1⟩ := three_kept hgrow; have hB0 := Box4.of q0; have hB0' := Lib.hid hB0; have hB1 := (Box4.of q1).op; obtain ⟨⟨z0, z1, z2, z3⟩, f0, f1, f2, f3⟩ := hB0))
  have hB : Below w.heap.size w w1 := (balloc (balloc (balloc (bref w) _) _) _).grown hgrow (by simp; omega) (fun q e => by simp [Value.ownBlock] at e; omega)
  have hg : w.heap.size + 1 < g := by
    rcases hat with hat | hat
    · simp [Value.ownBlock] at hat; omega
    · omega
  have hS1 : SpS W w p a cap xs g k L (.int .i64 c) (.int .i64 h) (.int .i64 m) (.slice (some ⟨b, off, none⟩) L.length c0) w1 :=
    ⟨hT'.out.more hB, bgrown hB _, hB0'.out, hB1, by simpa [PixAt] using hown, by omega⟩
  have hS2 := Lib.hid (hS1.field (hS1.box.set3 (.slice (some ⟨g, 0, none⟩) L.length k)))
  clear hS1 hB hown hgrow hat hltg q0 q1 hB1 z0 z1 z2 z3 f0 f1 f2 f3 hB0'
  refine (next_some W p a cap xs _ _ hS2.out.tape (by omega) (by omega)).mono ?_; rintro e w3 ⟨d, rfl, ⟨d0, d1⟩, hT3, hg3⟩
  have hS3 := Lib.hid (hS2.out.call hT3 hg3)
  clear hS2 hT3 hg3
  have hp3 := hS3.out.tape.lt.1
  obtain ⟨⟨z0, z1, z2, z3⟩, f0, f1, f2, f3⟩ := hS3.out.box
  rcases (show d = 0 ∨ d = 1 ∨ d = 2 ∨ d = 3 ∨ d = 4 ∨ d = 5 by omega) with hd | hd | hd | hd | hd | hd
  · subst hd
    go_wp2_with fail
    refine (pick_four' W p a cap xs 0 (c + 1) (-1) 129 _ _ _ (hS3.out.tape.alloc _) (by omega) (by go_cell) (by go_cell) (by go_cell) (by go_cell)).mono ?_; rintro e w4 ⟨u, rfl, hu, hT4, hg4⟩
    have hS4 := Lib.hid ((hS3.out.alloc _).call hT4 hg4)
    clear z0 z1 z2 z3 f0 f1 f2 f3 hT4 hg4
    obtain ⟨⟨z0, z1, z2, z3⟩, f0, f1, f2, f3⟩ := hS4.out.box
    obtain ⟨⟨v0, o0, r0⟩, ⟨v1, o1, r1⟩, ⟨v2, o2, r2⟩, ⟨v3, o3, r3⟩⟩ := open_cells hS4.out.op
    have hne : ¬ w.heap.size = w.heap.size + 1 := by omega
    go_wp2_with fail
    refine ret_plane Try.results20 rfl rfl (hS4.out.op.set _ _) (spoil_end (hS4.out.field (hS4.out.box.set0 _)) (spoil_pix (hS4.out.field (hS4.out.box.set0 _))) (by omega) (by omega) (by omega) (by omega) (spoil_far hS4.out))
  · subst hd
    go_wp2_with fail
    refine (pick_three W p a cap xs 0 (h + 1) 4611686018427387904 _ _ _ (hS3.out.tape.alloc _) (by omega) (by go_cell) (by go_cell) (by go_cell)).mono ?_; rintro e w4 ⟨u, rfl, hu, hT4, hg4⟩
    have hS4 := Lib.hid ((hS3.out.alloc _).call hT4 hg4)
    clear z0 z1 z2 z3 f0 f1 f2 f3 hT4 hg4
    obtain ⟨⟨z0, z1, z2, z3⟩, f0, f1, f2, f3⟩ := hS4.out.box
    obtain ⟨⟨v0, o0, r0⟩, ⟨v1, o1, r1⟩, ⟨v2, o2, r2⟩, ⟨v3, o3, r3⟩⟩ := open_cells hS4.out.op
    have hne : ¬ w.heap.size = w.heap.size + 1 := by omega
    go_wp2_with fail
    refine ret_plane Try.results20 rfl rfl (hS4.out.op.set _ _) (spoil_end (hS4.out.field (hS4.out.box.set1 _)) (spoil_pix (hS4.out.field (hS4.out.box.set1 _))) (by omega) (by omega) (by omega) (by omega) (spoil_far hS4.out))
  · subst hd
    go_wp2_with fail
    refine (pick_four' W p a cap xs 0 4294967297 (-1) 3 _ _ _ (hS3.out.tape.alloc _) (by omega) (by go_cell) (by go_cell) (by go_cell) (by go_cell)).mono ?_; rintro e w4 ⟨u, rfl, hu, hT4, hg4⟩
    have hS4 := Lib.hid ((hS3.out.alloc _).call hT4 hg4)
    clear z0 z1 z2 z3 f0 f1 f2 f3 hT4 hg4
    obtain ⟨⟨z0, z1, z2, z3⟩, f0, f1, f2, f3⟩ := hS4.out.box
    obtain ⟨⟨v0, o0, r0⟩, ⟨v1, o1, r1⟩, ⟨v2, o2, r2⟩, ⟨v3, o3, r3⟩⟩ := open_cells hS4.out.op
    have hne : ¬ w.heap.size = w.heap.size + 1 := by omega
    go_wp2_with fail
    refine ret_plane Try.results20 rfl rfl (hS4.out.op.set _ _) (spoil_end (hS4.out.field (hS4.out.box.set2 _)) (spoil_pix (hS4.out.field (hS4.out.box.set2 _))) (by omega) (by omega) (by omega) (by omega) (spoil_far hS4.out))
  · subst hd
    have hgl := hS3.out.pix.lt
    have hne : ¬ w.heap.size = w.heap.size + 1 := by omega
    go_wp2_with (at_builtin; go_must (refine wpList_append_lies _ rfl _ _ _ rfl w.heap.size 3 i0 (.int .i64 0) 1 8 Try.underlying22 hi hi0 hi1 hi2 rfl (by decide) (.slice (some ⟨g, 0, none⟩) L.length k) L.length (ints L) rfl (hS3.out.alloc (.cells #[.int .i64 0] 3)).pix ⟨w3.heap.size, 0, none⟩ 1 1 [.int .i64 0] rfl (by simp) (World.news_of_block (cs := #[.int .i64 0]) (heap_alloc_new _ _)) (by intro u hu; simp at hu; subst hu; rfl) (by omega) (by unfold maxLen; omega) (by omega) (by simp; omega) (w3.heap.size + 1) (by simp) ?_; intro g' k' w4 hown hgrow hat hltg; have hS4 := Lib.hid (spoil_more hS3.out hown hgrow hat); clear z0 z1 z2 z3 f0 f1 f2 f3; obtain ⟨⟨z0, z1, z2, z3⟩, f0, f1, f2, f3⟩ := hS4.out.box; obtain ⟨⟨v0, o0, r0⟩, ⟨v1, o1, r1⟩, ⟨v2, o2, r2⟩, ⟨v3, o3, r3⟩⟩ := open_cells hS4.out.op))
    refine ret_plane Try.results20 rfl rfl (hS4.out.op.set _ _) (spoil_end' (K := L ++ [0]) (by simp) (hS4.out.field (hS4.out.box.set3 _)) (spoil_pix (hS4.out.field (hS4.out.box.set3 _))) (by simp; omega) (by omega) (by omega) (by omega) (spoil_far hS4.out))
  · subst hd
    have hgl := hS3.out.pix.lt
    have hne : ¬ w.heap.size = w.heap.size + 1 := by omega
    have hlp : (L.length : Int) > 0 := by omega
    have np : ¬ w3.heap.size = p := by omega
    have hm1 : IntKind.i64.wrap (m + 1) = m + 1 := IntWalk.i64_in _ (by omega)
    go_upto_region 14 with fail
    have hR : SpR W w p a cap xs g k L.length c h m w3.drew := spr_drew (spr_of rfl hS3.out)
    have hRR := Lib.hid hR
    have hRA := Lib.hid (spr_drew (spr_alloc (spr_of rfl hS3.out) (.cells #[.int .i64 (-1), .int .i64 (m + 1), .int .i64 m] 3)))
    clear z0 z1 z2 z3 f0 f1 f2 f3
    first | go_must (go_region_held3 (fun w' => SpR W w p a cap xs g k L.length c h m w') ((first | with_reducible exact hRR.out | with_reducible exact hRA.out | with_reducible exact spr_set ‹_› _ _ | with_reducible exact spr_alloc ‹_› _ | with_reducible exact spr_call hT5 hg5 ‹_› | with_reducible exact spr_call hT4 hg4 ‹_›))
      (first
        | (go_at_call 10; refine (next_nat W p a cap xs _ _ (spr_tape ‹SpR W w p a cap xs g k L.length c h m _›) (by omega) (by omega)).mono ?_; rintro e w4 ⟨jn, rfl, j1, hT4, hg4⟩)
        | (go_at_call 32; refine (pick_spr _ _ _ _ _ jn (by omega) ‹SpR W w p a cap xs g k L.length c h m _›).mono ?_; rintro e w5 ⟨u, rfl, hT5, hg5, hdc5, hdf5⟩)
        | (go_at_call 32; refine (pick_sprB _ _ _ w3.heap.size _ (three_atd hg4 np) np jn (by omega) ‹SpR W w p a cap xs g k L.length c h m _›).mono ?_; rintro e w5 ⟨u, rfl, hT5, hg5, hdc5, hdf5⟩))) | skip
    all_goals
      have hEnd : SpR W w p a cap xs g k L.length c h m (w5.setCell ⟨g, jn, none⟩ (.int .i64 u)) := by assumption
      obtain ⟨L', hL', hS6'⟩ := hEnd.1.out
      have hS6 := Lib.hid hS6'
      clear hS6' hEnd
      obtain ⟨⟨z0, z1, z2, z3⟩, f0, f1, f2, f3⟩ := hS6.out.box
      obtain ⟨⟨v0, o0, r0⟩, ⟨v1, o1, r1⟩, ⟨v2, o2, r2⟩, ⟨v3, o3, r3⟩⟩ := open_cells hS6.out.op
      go_wp2_with fail
      refine ret_plane Try.results20 rfl rfl hS6.out.op (spoil_end' hL' hS6.out (by have := spoil_pix (u0 := .int .i64 c) (u1 := .int .i64 h) (u2 := .int .i64 m) (u3 := .slice (some ⟨g, 0, none⟩) L.length k) hS6.out; exact this) (by omega) (by omega) (by omega) (by omega) (spoil_far hS6.out))
  · subst hd
    obtain ⟨⟨v0, o0, r0⟩, ⟨v1, o1, r1⟩, ⟨v2, o2, r2⟩, ⟨v3, o3, r3⟩⟩ := open_cells hS3.out.op
    have hne : ¬ w.heap.size = w.heap.size + 1 := by omega
    go_wp2_with fail
    refine ret_plane Try.results20 rfl rfl (hS3.out.op.set _ _) (spoil_end (K := []) (hS3.out.field (hS3.out.box.set3 _)) (fun j hj => by simp at hj) (by simp) (by omega) (by omega) (by omega) (fun b o e => by simp at e))
end Go.Proofs.Ytpmajophkhihlaa
