/- Subtract of the program as a contract: the slice that it returns is new and holds the parts one after another. -/
import Derived.Test.YtbdedlmpcdelfaaRIn
import Derived.Test.YtbdedlmpcdelfaaRSubPlain
import Derived.Deep.AppendLies
import Derived.Deep.Onto
import Derived.Laws.OwnMore
import Derived.Laws.MakeOwn
namespace Go.Proofs.Ytbdedlmpcdelfaa
open Go.ChangeShapes Go.WideShapes Go.ChangeAt Go.RowKit
set_option linter.unusedVariables false
set_option linter.unusedSimpArgs false

/-- a new slice of rectangles came back, and only new blocks came -/
def SubPost (L : List Rc) (w : World) (e : Ending) (w' : World) : Prop := ∃ v, e = .returned v ∧ w'.ownsRow w.heap.size 26 4 v L.length (flat L) ∧ Below w.heap.size w w'
theorem sub_nil {L : List Rc} {w w' : World} (h : L = []) (hb : Below w.heap.size w w') : SubPost L w (.returned (.slice none 0 0)) w' := by
  subst h
  exact ⟨_, rfl, ⟨rfl, .inl ⟨rfl, rfl⟩⟩, hb⟩
/-- four rectangles lie one after another in a block -/
def FourAt (w : World) (G : Nat) (f : Nat → Rc) : Prop := ∀ j, j < 4 → w.cell? ⟨G, j * 4, none⟩ = some (.int .i64 (f j).x0) ∧ w.cell? ⟨G, j * 4 + 1, none⟩ = some (.int .i64 (f j).y0) ∧ w.cell? ⟨G, j * 4 + 2, none⟩ = some (.int .i64 (f j).x1) ∧ w.cell? ⟨G, j * 4 + 3, none⟩ = some (.int .i64 (f j).y1)
theorem FourAt.below {w w' : World} {G : Nat} {f : Nat → Rc} (h : FourAt w G f) (hb : Below w.heap.size w w') : FourAt w' G f := fun j hj => by
  obtain ⟨h0, h1, h2, h3⟩ := h j hj
  exact ⟨bkeep hb h0, bkeep hb h1, bkeep hb h2, bkeep hb h3⟩
theorem FourAt.grown {w w' : World} {G : Nat} {f : Nat → Rc} {row : Option Nat} (h : FourAt w G f) (hg : w.grownBy w' row) (hne : some G ≠ row) : FourAt w' G f := fun j hj => by
  obtain ⟨h0, h1, h2, h3⟩ := h j hj
  exact ⟨hg.cell h0 hne, hg.cell h1 hne, hg.cell h2 hne, hg.cell h3 hne⟩
theorem four_new (w : World) (a b c d p q r s : Int) :
    FourAt (w.alloc (.cells #[.int .i64 a, .int .i64 b, .int .i64 c, .int .i64 q, .int .i64 a, .int .i64 q, .int .i64 p, .int .i64 s, .int .i64 r, .int .i64 q, .int .i64 c, .int .i64 s, .int .i64 a, .int .i64 s, .int .i64 c, .int .i64 d] 26)) w.heap.size (partK a b c d ⟨p, q, r, s⟩) := by
  intro j hj
  have : j = 0 ∨ j = 1 ∨ j = 2 ∨ j = 3 := by omega
  rcases this with rfl | rfl | rfl | rfl <;> refine ⟨?_, ?_, ?_, ?_⟩ <;> simp [World.cell?_alloc_new, partK]
/-- where a difference stands behind k parts: W is the world behind the making of the four -/
def SubInv (w W : World) (G : Nat) (f : Nat → Rc) (k : Nat) (L : List Rc) (v : Value) (wr : World) : Prop :=
  Below w.heap.size w wr ∧ wr.ownsRow (G + 1) 26 4 v L.length (flat L) ∧ FourAt wr G f ∧ G < wr.heap.size
theorem info26 : (Try.prog.info? 26).map (fun i => (i.zero, i.size, i.bytes)) = some (some (.agg #[.int .i64 0, .int .i64 0, .int .i64 0, .int .i64 0]), 4, 32) := by kernel_rfl
theorem subInv_step {w W : World} {G : Nat} {f : Nat → Rc} {k : Nat} {L : List Rc} {v : Value} {wr w' : World} (h : SubInv w W G f k L v wr) (hb : Below wr.heap.size wr w') : SubInv w W G f k L v w' := by
  obtain ⟨h1, h2, h3, h4⟩ := h
  exact ⟨bthen h1 hb, own_below h2 hb, h3.below hb, bmore hb h4⟩
theorem subInv_app {w W : World} {G : Nat} {f : Nat → Rc} {k : Nat} {L : List Rc} {v v' : Value} {wr w' : World} {r : Rc} (h : SubInv w W G f k L v wr) (hG : w.heap.size ≤ G) (ho : w'.ownsRow (G + 1) 26 4 v' (L.length + 1) (flat L ++ flat [r])) (hg : wr.grownBy w' v.ownBlock) : SubInv w W G f (k + 1) (L ++ [r]) v' w' := by
  obtain ⟨h1, h2, h3, h4⟩ := h
  refine ⟨h1.grown hg h1.size (fun j hj => ?_), ?_, h3.grown hg (fun e => ?_), Nat.lt_of_lt_of_le h4 hg.size⟩
  · have := (h2.lt j hj).1; omega
  · rw [List.length_append, flat_add]; exact ho
  · have := (h2.lt G e.symm).1; omega
theorem subInv_len {w W : World} {G : Nat} {f : Nat → Rc} {k : Nat} {L : List Rc} {v : Value} {wr : World} (h : SubInv w W G f k L v wr) : wr.ownsRow (G + 1) 26 4 v L.length (flat L) := h.2.1
set_option maxRecDepth 100000 in
set_option maxHeartbeats 4000000 in
theorem sub_any (a b c d a' b' c' d' : Int) (w : World) :
    Calls Try.prog 20 #[.agg #[.int .i64 a, .int .i64 b, .int .i64 c, .int .i64 d], .agg #[.int .i64 a', .int .i64 b', .int .i64 c', .int .i64 d']] w (SubPost (subL a b c d a' b' c' d') w) := by
  rcases he : emptyB a b c d with _ | _
  · rcases hv : validB a b c d with _ | _
    · have he' := Lib.hid he
      have hv' := Lib.hid hv
      go_enter Try.func20, Try.ntmps20
      go_wp2_with fail
      refine (empty_any _ _ _ _ _).mono ?_; rintro e w1 ⟨rfl, hb⟩; obtain ⟨hc, hf⟩ := bcell hb
      obtain ⟨z0, z1⟩ := sz2 hb
      go_wp2_with fail
      refine (valid_any _ _ _ _ _).mono ?_; rintro e w2 ⟨rfl, hb2⟩; obtain ⟨hc2, hf2⟩ := bcell hb2
      go_wp2_with fail
      go_ret
      exact sub_nil (sub_u (.inl (full_vf hv'.out))) (bthen (bthen (balloc (balloc (bref w) _) _) hb) hb2)
    · rcases hu : validB a' b' c' d' with _ | _
      · have he' := Lib.hid he
        have hv' := Lib.hid hv
        have hu' := Lib.hid hu
        go_enter Try.func20, Try.ntmps20
        go_wp2_with fail
        refine (empty_any _ _ _ _ _).mono ?_; rintro e w1 ⟨rfl, hb⟩; obtain ⟨hc, hf⟩ := bcell hb
        obtain ⟨z0, z1⟩ := sz2 hb
        go_wp2_with fail
        refine (valid_any _ _ _ _ _).mono ?_; rintro e w2 ⟨rfl, hb2⟩; obtain ⟨hc2, hf2⟩ := bcell hb2
        have y0 := bmore hb2 z0
        have y1 := bmore hb2 z1
        go_wp2_with fail
        refine (valid_any _ _ _ _ _).mono ?_; rintro e w3 ⟨rfl, hb3⟩; obtain ⟨hc3, hf3⟩ := bcell hb3
        go_wp2_with fail
        go_ret
        exact sub_nil (sub_u (.inr hu'.out)) (bthen (bthen (bthen (balloc (balloc (bref w) _) _) hb) hb2) hb3)
      · obtain ⟨p, q, r, s, hR⟩ : ∃ p q r s, interR a b c d a' b' c' d' = ⟨p, q, r, s⟩ := ⟨_, _, _, _, rfl⟩
        rcases hx : emptyB p q r s with _ | _
        · have he' := Lib.hid he
          have hv' := Lib.hid hv
          have hu' := Lib.hid hu
          have hR' := Lib.hid hR
          have hx' := Lib.hid hx
          clear hR
          go_enter Try.func20, Try.ntmps20
          go_wp2_with fail
          refine (empty_any _ _ _ _ _).mono ?_; rintro e w1 ⟨rfl, hb⟩; obtain ⟨hc, hf⟩ := bcell hb
          obtain ⟨z0, z1⟩ := sz2 hb
          go_wp2_with fail
          refine (valid_any _ _ _ _ _).mono ?_; rintro e w2 ⟨rfl, hb2⟩; obtain ⟨hc2, hf2⟩ := bcell hb2
          have y0 := bmore hb2 z0
          have y1 := bmore hb2 z1
          go_wp2_with fail
          refine (valid_any _ _ _ _ _).mono ?_; rintro e w3 ⟨rfl, hb3⟩; obtain ⟨hc3, hf3⟩ := bcell hb3
          have x0 := bmore hb3 y0
          have x1 := bmore hb3 y1
          go_wp2_with fail
          refine (inter_is hR'.out _).mono ?_; rintro e w4 ⟨rfl, hb4⟩; obtain ⟨hc4, hf4⟩ := bcell hb4
          have v0 := bmore hb4 x0
          have v1 := bmore hb4 x1
          go_wp2_with fail
          refine (empty_any _ _ _ _ _).mono ?_; rintro e w5 ⟨rfl, hb5⟩; obtain ⟨hc5, hf5⟩ := bcell hb5
          have u0 : w.heap.size < w5.heap.size := by have := hb5.size; simp at this; omega
          have u1 : w.heap.size + 1 < w5.heap.size := by have := hb5.size; simp at this; omega
          have u4 := sz1 hb5
          go_wp2_with fail
          have hpart := Lib.hid (part_area (full_t hv'.out he'.out) hR'.out hx'.out)
          have hsub := Lib.hid (sub_p (full_t hv'.out he'.out) hu'.out hR'.out hx'.out)
          obtain ⟨i0, hi, hi0, hi1, hi2⟩ := info_parts info26
          have hi' := Lib.hid hi
          have hi0' := Lib.hid hi0
          have hi1' := Lib.hid hi1
          have hi2' := Lib.hid hi2
          have HB : Below w.heap.size w w5 := bthen (balloc (bthen (bthen (bthen (bthen (balloc (balloc (bref w) _) _) hb) hb2) hb3) hb4) _) hb5
          have hG : w.heap.size ≤ w5.heap.size := HB.size
          have H0 : SubInv w w5 w5.heap.size (partK a b c d ⟨p, q, r, s⟩) 0 [] (.slice none 0 0) (w5.alloc (.cells #[.int .i64 a, .int .i64 b, .int .i64 c, .int .i64 q, .int .i64 a, .int .i64 q, .int .i64 p, .int .i64 s, .int .i64 r, .int .i64 q, .int .i64 c, .int .i64 s, .int .i64 a, .int .i64 s, .int .i64 c, .int .i64 d] 26)) :=
            ⟨balloc HB _, World.ownsRow_nil _ _ _ _, four_new _ _ _ _ _ _ _ _ _, by simp⟩
          clear hi hi0 hi1 hi2 hc hf hc2 hf2 hc3 hf3 hc4 hf4 hc5 hf5 hb hb2 hb3 hb4 hb5 HB z0 z1 y0 y1 x0 x1 v0 v1 u0 u1 u4 he hv hu hx
          obtain ⟨WW, eWW⟩ : ∃ WW, WW = (w5.alloc (.cells #[.int .i64 a, .int .i64 b, .int .i64 c, .int .i64 q, .int .i64 a, .int .i64 q, .int .i64 p, .int .i64 s, .int .i64 r, .int .i64 q, .int .i64 c, .int .i64 s, .int .i64 a, .int .i64 s, .int .i64 c, .int .i64 d] 26)) := ⟨_, rfl⟩
          rw [← eWW] at H0 ⊢
          clear eWW
          go_loopw [6, 66] (fun v i wr => ∃ k : Nat, k ≤ 4 ∧ i = .int .i64 k ∧ SubInv w w5 w5.heap.size (partK a b c d ⟨p, q, r, s⟩) k (partsN a b c d ⟨p, q, r, s⟩ k) v wr) (fun _ i _ => 4 - (intOf i).toNat)
          case atStart => exact ⟨0, by omega, rfl, H0⟩
          case round =>
            clear H0
            obtain ⟨k, hk, rfl, HI⟩ := hrel
            by_cases hlt : k < 4
            · obtain ⟨k0, k1, k2, k3⟩ := HI.2.2.1 k hlt
              obtain ⟨⟨X0, Y0, X1, Y1⟩, hq⟩ : ∃ rr, partK a b c d ⟨p, q, r, s⟩ k = rr := ⟨_, rfl⟩
              obtain ⟨ha, ⟨g0, g1⟩, ⟨g2, g3⟩, ⟨g4, g5⟩, ⟨g6, g7⟩⟩ := hpart.out k X0 Y0 X1 Y1 hq
              have hq' := Lib.hid hq
              rw [hq] at k0 k1 k2 k3
              dsimp only at k0 k1 k2 k3
              clear hq
              have hkI : (k : Int) < 4 := by omega
              have HI' := Lib.hid HI
              clear HI
              rcases hpos : posB ⟨X0, Y0, X1, Y1⟩ with _ | _
              · rw [hpos] at ha
                have ha' : ¬ (0 < areaN X0 Y0 X1 Y1) := by simpa using ha
                clear ha
                have hP := Lib.hid (parts_f (a := a) (b := b) (c := c) (d := d) (m := ⟨p, q, r, s⟩) (n := k) (by rw [hq'.out]; exact hpos))
                clear hpos
                go_wp2_with fail
                refine (area_any _ _ _ _ _).mono ?_; rintro e wA ⟨rfl, hbA⟩; obtain ⟨hcA, hfA⟩ := bcell hbA
                have HS := Lib.hid (subInv_step HI'.out (bthen (balloc (bref _) _) hbA))
                go_wp2_with fail
                go_roundw
                case rel => exact ⟨k + 1, by omega, by go_num, by rw [hP.out]; exact HS.out⟩
                case measure => simp [intOf]; omega
              · rw [hpos] at ha
                have ha' : 0 < areaN X0 Y0 X1 Y1 := by simpa using ha
                clear ha
                have hP := Lib.hid (parts_t (a := a) (b := b) (c := c) (d := d) (m := ⟨p, q, r, s⟩) (n := k) (by rw [hq'.out]; exact hpos))
                clear hpos
                have hL := parts_le a b c d ⟨p, q, r, s⟩ k
                obtain ⟨L, hLL⟩ : ∃ L, partsN a b c d ⟨p, q, r, s⟩ k = L := ⟨_, rfl⟩
                rw [hLL] at hL HI' hP
                have hLL' := Lib.hid hLL
                clear hLL
                go_wp2_with fail
                refine (area_any _ _ _ _ _).mono ?_; rintro e wA ⟨rfl, hbA⟩; obtain ⟨hcA, hfA⟩ := bcell hbA
                have HS := Lib.hid (subInv_step HI'.out (bthen (balloc (bref _) _) hbA))
                have zA := sz1 hbA
                have hAl : w5.heap.size + 1 ≤ wA.heap.size := HS.out.2.2.2
                go_wp2_with (at_builtin; refine wpList_append_lies _ rfl _ _ _ rfl (w5.heap.size + 1) 26 i0 (.agg #[.int .i64 0, .int .i64 0, .int .i64 0, .int .i64 0]) 4 32 Try.underlying41 hi'.out hi0'.out hi1'.out hi2'.out rfl (by decide) u6 L.length (flat L) rfl (HS.out.2.1.alloc _) ⟨wA.heap.size, 0, none⟩ 1 1 (flat [⟨X0, Y0, X1, Y1⟩]) rfl rfl (World.news_of_block (heap_alloc_new wA _)) (by intro u hu; simp [flat] at hu; rcases hu with rfl | rfl | rfl | rfl <;> rfl) (by decide) (by unfold maxLen; omega) (by omega) (by simp; omega) (wA.heap.size + 1) (by simp) ?_; intro g cap wB hown hgrow hat hlB)
                have HF := Lib.hid (subInv_app (subInv_step HS.out (balloc (bref wA) _)) hG hown hgrow)
                go_roundw
                case rel => exact ⟨k + 1, by omega, by go_num, by rw [hP.out, hq'.out]; exact HF.out⟩
                case measure => simp [intOf]; omega
            · obtain rfl : k = 4 := by omega
              go_wp2_with fail
              go_ret
              exact ⟨_, rfl, by rw [hsub.out]; exact HI.2.1.mono (by omega), HI.1⟩
        · have he' := Lib.hid he
          have hv' := Lib.hid hv
          have hu' := Lib.hid hu
          have hR' := Lib.hid hR
          have hx' := Lib.hid hx
          clear hR
          go_enter Try.func20, Try.ntmps20
          go_wp2_with fail
          refine (empty_any _ _ _ _ _).mono ?_; rintro e w1 ⟨rfl, hb⟩; obtain ⟨hc, hf⟩ := bcell hb
          obtain ⟨z0, z1⟩ := sz2 hb
          go_wp2_with fail
          refine (valid_any _ _ _ _ _).mono ?_; rintro e w2 ⟨rfl, hb2⟩; obtain ⟨hc2, hf2⟩ := bcell hb2
          have y0 := bmore hb2 z0
          have y1 := bmore hb2 z1
          go_wp2_with fail
          refine (valid_any _ _ _ _ _).mono ?_; rintro e w3 ⟨rfl, hb3⟩; obtain ⟨hc3, hf3⟩ := bcell hb3
          have x0 := bmore hb3 y0
          have x1 := bmore hb3 y1
          go_wp2_with fail
          refine (inter_is hR'.out _).mono ?_; rintro e w4 ⟨rfl, hb4⟩; obtain ⟨hc4, hf4⟩ := bcell hb4
          have v0 := bmore hb4 x0
          have v1 := bmore hb4 x1
          go_wp2_with fail
          refine (empty_any _ _ _ _ _).mono ?_; rintro e w5 ⟨rfl, hb5⟩; obtain ⟨hc5, hf5⟩ := bcell hb5
          have u0 : w.heap.size < w5.heap.size := by have := hb5.size; simp at this; omega
          have u1 : w.heap.size + 1 < w5.heap.size := by have := hb5.size; simp at this; omega
          have u4 := sz1 hb5
          go_wp2_with fail
          have HB : Below w.heap.size w w5 := bthen (balloc (bthen (bthen (bthen (bthen (balloc (balloc (bref w) _) _) hb) hb2) hb3) hb4) _) hb5
          have hsub := Lib.hid (sub_a (full_t hv'.out he'.out) hu'.out hR'.out hx'.out)
          go_ret
          exact ⟨_, rfl, by rw [hsub.out]; exact World.ownsRow_lit w5 #[.int .i64 a, .int .i64 b, .int .i64 c, .int .i64 d] 1 HB.size (by unfold maxLen; omega) rfl, balloc HB _⟩
  · have he' := Lib.hid he
    go_enter Try.func20, Try.ntmps20
    go_wp2_with fail
    refine (empty_any _ _ _ _ _).mono ?_; rintro e w1 ⟨rfl, hb⟩; obtain ⟨hc, hf⟩ := bcell hb
    obtain ⟨z0, z1⟩ := sz2 hb
    go_wp2_with fail
    go_ret
    exact sub_nil (sub_u (.inl (full_ev he'.out))) (bthen (balloc (balloc (bref w) _) _) hb)
end Go.Proofs.Ytbdedlmpcdelfaa
