/- The tiles that a rectangle touches, as a contract of the reference: the list that it returns; the world gets new blocks at most. -/
import Derived.Test.YtpbapamoihkaoaaGTouchPlain
import Derived.Test.YtpbapamoihkaoaaGTile
import Derived.Test.YtpbapamoihkaoaaPRow
namespace Go.Proofs.Ytpbapamoihkaoaa
open Go.ChangeShapes Go.WideShapes Go.ChangeAt Go.RowKit
set_option linter.unusedVariables false
set_option linter.unusedSimpArgs false

/-- a slice that reads as a list came back, and only new blocks came -/
def TouchPost (L : List Int) (w : World) (e : Ending) (w' : World) : Prop := ∃ a cap, e = .returned (.slice a L.length cap) ∧ SliceIs w' a L ∧ Below w.heap.size w w'
/-- a list in a block of its own, made since 'base', or nil where it is empty -/
def OwnL (base : Nat) (w : World) (v : Value) (L : List Int) : Prop := w.ownsRow base 3 1 v L.length (ints L)
theorem OwnL.nil (base : Nat) (w : World) : OwnL base w (.slice none 0 0) [] := ⟨rfl, .inl ⟨rfl, rfl⟩⟩
theorem OwnL.below {base : Nat} {w w' : World} {v : Value} {L : List Int} (h : OwnL base w v L) (hb : Below w.heap.size w w') : OwnL base w' v L := own_below h hb
theorem OwnL.slice {base : Nat} {w : World} {v : Value} {L : List Int} (h : OwnL base w v L) : ∃ a cap, v = .slice a L.length cap ∧ SliceIs w a L := by
  rcases h.2 with ⟨rfl, hn⟩ | ⟨g, cap, cur, rfl, _⟩
  · exact ⟨none, 0, by rw [hn], fun k hk => by omega⟩
  · exact ⟨_, cap, rfl, PixAt.isS h⟩
theorem OwnL.post {base : Nat} {w w' : World} {v : Value} {L K : List Int} (h : OwnL base w' v L) (e : K = L) (hb : Below w.heap.size w w') : TouchPost K w (.returned v) w' := by
  subst e
  obtain ⟨a, cap, rfl, hs⟩ := h.slice
  exact ⟨a, cap, rfl, hs, hb⟩
theorem OwnL.more {base : Nat} {w' : World} {v : Value} {L : List Int} {n : Int} (h : w'.ownsRow base 3 1 v (L.length + 1) (ints L ++ [.int .i64 n])) : OwnL base w' v (L ++ [n]) := by
  unfold OwnL
  simpa [ints] using h
theorem OwnL.lt {base : Nat} {w : World} {v : Value} {L : List Int} (h : OwnL base w v L) {g : Nat} (e : v.ownBlock = some g) : base ≤ g ∧ g < w.heap.size := World.ownsRow.lt h g e
theorem rtile_is {w h t u i a b c d : Int} {v : Bool} (hB : tileB w h t u i = v) (hR : tileR w h t u i = ⟨a, b, c, d⟩) (w0 : World) : Calls Try.prog 27 #[.int .i64 w, .int .i64 h, .int .i64 t, .int .i64 u, .int .i64 i] w0 fun e w' => e = .returned (.tuple #[.agg #[.int .i64 a, .int .i64 b, .int .i64 c, .int .i64 d], .bool v]) ∧ Below w0.heap.size w0 w' := by
  have := rtile_any w h t u i w0
  unfold TilePost at this
  rw [hR, hB] at this; exact this
theorem gtile_is {w h t u i a b c d : Int} {v : Bool} (hB : tileB w h t u i = v) (hR : tileR w h t u i = ⟨a, b, c, d⟩) (w0 : World) : Calls Try.prog 15 #[.int .i64 w, .int .i64 h, .int .i64 t, .int .i64 u, .int .i64 i] w0 fun e w' => e = .returned (.tuple #[.agg #[.int .i64 a, .int .i64 b, .int .i64 c, .int .i64 d], .bool v]) ∧ Below w0.heap.size w0 w' := by
  have := gtile_any w h t u i w0
  unfold TilePost at this
  rw [hR, hB] at this; exact this
theorem rempty_is {a b c d : Int} {v : Bool} (h : emptyB a b c d = v) (w : World) : Calls Try.prog 20 #[.agg #[.int .i64 a, .int .i64 b, .int .i64 c, .int .i64 d]] w (TestPost v w) := h ▸ rempty_any a b c d w
theorem empty_is {a b c d : Int} {v : Bool} (h : emptyB a b c d = v) (w : World) : Calls Try.prog 34 #[.agg #[.int .i64 a, .int .i64 b, .int .i64 c, .int .i64 d]] w (TestPost v w) := h ▸ empty_any a b c d w
/-- four numbers lie in a block -/
def Box (w : World) (p : Nat) (a b c d : Int) : Prop := w.cell? ⟨p, 0, none⟩ = some (.int .i64 a) ∧ w.cell? ⟨p, 1, none⟩ = some (.int .i64 b) ∧ w.cell? ⟨p, 2, none⟩ = some (.int .i64 c) ∧ w.cell? ⟨p, 3, none⟩ = some (.int .i64 d)
theorem Box.lt {w : World} {p : Nat} {a b c d : Int} (h : Box w p a b c d) : p < w.heap.size := World.block_lt_of_cell? _ _ h.1
theorem Box.new (w : World) (a b c d : Int) (t : TypeId) : Box (w.alloc (.cells #[.int .i64 a, .int .i64 b, .int .i64 c, .int .i64 d] t)) w.heap.size a b c d := by
  refine ⟨?_, ?_, ?_, ?_⟩ <;> simp [World.cell?_alloc_new]
theorem Box.below {w w' : World} {p : Nat} {a b c d : Int} (h : Box w p a b c d) (hb : Below w.heap.size w w') : Box w' p a b c d := ⟨bkeep hb h.1, bkeep hb h.2.1, bkeep hb h.2.2.1, bkeep hb h.2.2.2⟩
theorem Box.grown {w w' : World} {p : Nat} {a b c d : Int} (h : Box w p a b c d) {row : Option Nat} (hg : w.grownBy w' row) (hne : some p ≠ row) : Box w' p a b c d := ⟨hg.cell h.1 hne, hg.cell h.2.1 hne, hg.cell h.2.2.1 hne, hg.cell h.2.2.2 hne⟩
/-- where the walk over the tiles stands: a rectangle's box, and the list so far -/
def TInv (w : World) (p : Nat) (a b c d : Int) (v : Value) (L : List Int) (wr : World) : Prop := Below w.heap.size w wr ∧ Box wr p a b c d ∧ OwnL (p + 1) wr v L
theorem TInv.step {w : World} {p : Nat} {a b c d : Int} {v : Value} {L : List Int} {wr w' : World} (h : TInv w p a b c d v L wr) (hb : Below wr.heap.size wr w') : TInv w p a b c d v L w' := ⟨bthen h.1 hb, h.2.1.below hb, h.2.2.below hb⟩
theorem TInv.app {w : World} {p : Nat} {a b c d : Int} {v v' : Value} {L : List Int} {n : Int} {wr w' : World} (h : TInv w p a b c d v L wr) (hp : w.heap.size ≤ p) (ho : w'.ownsRow (p + 1) 3 1 v' (L.length + 1) (ints L ++ [.int .i64 n])) (hg : wr.grownBy w' v.ownBlock) : TInv w p a b c d v' (L ++ [n]) w' := by
  obtain ⟨h1, h2, h3⟩ := h
  refine ⟨h1.grown hg h1.size (fun j hj => ?_), h2.grown hg (fun e => ?_), OwnL.more ho⟩
  · have := (h3.lt hj).1; omega
  · have := (h3.lt e.symm).1; omega
set_option maxRecDepth 100000 in
set_option maxHeartbeats 2000000 in
theorem rtouch_any (w h t u a b c d : Int) (w0 : World) : Calls Try.prog 30 #[.int .i64 w, .int .i64 h, .int .i64 t, .int .i64 u, .agg #[.int .i64 a, .int .i64 b, .int .i64 c, .int .i64 d]] w0 (TouchPost (touchL w h t u a b c d) w0) := by
  obtain ⟨C, eC⟩ : ∃ C, colN w h t u = C := ⟨_, rfl⟩
  obtain ⟨R, eR⟩ : ∃ R, rowN w h t u = R := ⟨_, rfl⟩
  have hcr := cr_bd w h t u
  obtain ⟨n, eP⟩ : ∃ n : Nat, C * R = n := ⟨(C * R).toNat, by rw [← eC, ← eR]; omega⟩
  obtain ⟨T, eT⟩ : ∃ T : Nat → Bool, T = fun k : Nat => touchB w h t u a b c d k := ⟨_, rfl⟩
  have HL : Hid (touchL w h t u a b c d = upT T n) := Lib.hid (by unfold touchL; rw [eC, eR, eP, eT]; rfl)
  rw [eC, eR, eP] at hcr
  have hn : n ≤ 16384 := by omega
  have HT : Hid (∀ k : Nat, T k = touchB w h t u a b c d k) := Lib.hid (fun k => by rw [eT])
  have HC := Lib.hid eC
  have HR := Lib.hid eR
  obtain ⟨i0, hi, hi0, hi1, hi2⟩ := info_parts infoI
  have hi' := Lib.hid hi
  have hi0' := Lib.hid hi0
  have hi1' := Lib.hid hi1
  have hi2' := Lib.hid hi2
  clear eC eR eT hcr hi hi0 hi1 hi2
  go_enter Try.func30, Try.ntmps30
  go_wp2_with fail
  refine (rcount_is HC.out HR.out _).mono ?_; rintro e w' ⟨rfl, rfl⟩
  have H0 : TInv w0 w0.heap.size a b c d (.slice none 0 0) [] (w0.alloc (.cells #[.int .i64 a, .int .i64 b, .int .i64 c, .int .i64 d] 31)) := ⟨balloc (bref _) _, Box.new _ _ _ _ _ _, OwnL.nil _ _⟩
  have H0' := Lib.hid H0
  clear H0
  go_wp2_with fail
  go_loopw [13, 14] (fun v i wr => ∃ k : Nat, k ≤ n ∧ i = .int .i64 k ∧ Hid (TInv w0 w0.heap.size a b c d v (upT T k) wr)) (fun _ i _ => n - (intOf i).toNat)
  case atStart => exact ⟨0, by omega, rfl, H0'⟩
  case round =>
    clear H0'
    obtain ⟨k, hk, rfl, HI⟩ := hrel
    by_cases hlt : k < n
    · obtain ⟨tb, etb⟩ : ∃ tb, tileB w h t u (k : Int) = tb := ⟨_, rfl⟩
      obtain ⟨x0, y0, x1, y1, eT⟩ : ∃ x0 y0 x1 y1, tileR w h t u (k : Int) = ⟨x0, y0, x1, y1⟩ := ⟨_, _, _, _, rfl⟩
      obtain ⟨p, q, r, s, eI⟩ : ∃ p q r s, interR x0 y0 x1 y1 a b c d = ⟨p, q, r, s⟩ := ⟨_, _, _, _, rfl⟩
      have eK : T k = !emptyB p q r s := by rw [HT.out k]; unfold touchB; rw [eT]; dsimp only; rw [eI]
      have Htb := Lib.hid etb
      have HeT := Lib.hid eT
      have HeI := Lib.hid eI
      have hll := upT_len T k
      clear etb eT eI
      rcases hE : emptyB p q r s with _ | _
      · rw [hE] at eK
        have HE := Lib.hid hE
        have HN := Lib.hid (upT_t (T := T) (n := k) (by rw [eK]; rfl))
        clear hE eK
        obtain ⟨L, eL⟩ : ∃ L, upT T k = L := ⟨_, rfl⟩
        rw [eL] at HI HN hll
        clear eL
        go_wp2_with fail
        refine (rtile_is Htb.out HeT.out _).mono ?_; rintro e w1 ⟨rfl, hb⟩
        have H1 := Lib.hid (HI.out.step hb)
        obtain ⟨c0, c1, c2, c3⟩ := H1.out.2.1
        have hz := H1.out.2.1.lt
        have hz2 := H1.out.1.size
        clear hb HI
        go_wp2_with fail
        refine (rinter_is HeI.out _).mono ?_; rintro e w2 ⟨rfl, hb⟩
        have H2 := Lib.hid (H1.out.step (bthen (balloc (bref w1) _) hb))
        clear hb H1 c0 c1 c2 c3 hz hz2
        go_wp2_with fail
        refine (rempty_is HE.out _).mono ?_; rintro e w3 ⟨rfl, hb⟩
        have H3 := Lib.hid (H2.out.step hb)
        have hz := H3.out.2.1.lt
        have hz2 := H3.out.1.size
        clear hb H2
        go_wp2_with (at_builtin; refine wpList_append_lies _ rfl _ _ _ rfl (w0.heap.size + 1) 3 i0 (.int .i64 0) 1 8 Try.underlying29 hi'.out hi0'.out hi1'.out hi2'.out rfl (by decide) u13 L.length (ints L) rfl ((H3.out.step (balloc (bref w3) _)).2.2) ⟨w3.heap.size, 0, none⟩ 1 1 [.int .i64 (k : Int)] rfl rfl (World.news_of_block (heap_alloc_new w3 _)) (by intro u hu; simp at hu; subst hu; rfl) (by decide) (by unfold maxLen; omega) (by omega) (by simp; omega) (w3.heap.size + 1) (by simp) ?_; intro g cap wB hown hgrow hat hlB)
        have HF := Lib.hid ((H3.out.step (balloc (bref w3) _)).app (Nat.le_refl _) hown hgrow)
        go_roundw
        case rel => exact ⟨k + 1, by omega, by go_num, Lib.hid (by rw [HN.out]; exact HF.out)⟩
        case measure => simp [intOf]; omega
      · rw [hE] at eK
        have HE := Lib.hid hE
        have HN := Lib.hid (upT_f (T := T) (n := k) (by rw [eK]; rfl))
        clear hE eK
        obtain ⟨L, eL⟩ : ∃ L, upT T k = L := ⟨_, rfl⟩
        rw [eL] at HI HN hll
        clear eL
        go_wp2_with fail
        refine (rtile_is Htb.out HeT.out _).mono ?_; rintro e w1 ⟨rfl, hb⟩
        have H1 := Lib.hid (HI.out.step hb)
        obtain ⟨c0, c1, c2, c3⟩ := H1.out.2.1
        have hz := H1.out.2.1.lt
        have hz2 := H1.out.1.size
        clear hb HI
        go_wp2_with fail
        refine (rinter_is HeI.out _).mono ?_; rintro e w2 ⟨rfl, hb⟩
        have H2 := Lib.hid (H1.out.step (bthen (balloc (bref w1) _) hb))
        clear hb H1 c0 c1 c2 c3 hz hz2
        go_wp2_with fail
        refine (rempty_is HE.out _).mono ?_; rintro e w3 ⟨rfl, hb⟩
        have H3 := Lib.hid (H2.out.step hb)
        clear hb H2
        go_wp2_with fail
        go_roundw
        case rel => exact ⟨k + 1, by omega, by go_num, Lib.hid (by rw [HN.out]; exact H3.out)⟩
        case measure => simp [intOf]; omega
    · obtain rfl : k = n := by omega
      go_wp2_with fail
      go_ret
      exact HI.out.2.2.post HL.out HI.out.1
end Go.Proofs.Ytpbapamoihkaoaa
