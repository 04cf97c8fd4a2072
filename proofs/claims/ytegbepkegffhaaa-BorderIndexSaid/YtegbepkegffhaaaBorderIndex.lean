/- BorderIndex: which edges are valid and to what coordinates are mapped, for every edge and all ints. No condition. -/
import Derived.Test.YtegbepkegffhaaaBEdge
import Derived.Test.YtegbepkegffhaaaBRRange
import Derived.Lib.SmallJoins
import Derived.Deep.RegionHeld3
import Derived.Test.YtegbepkegffhaaaLaw
namespace Go.Proofs.Ytegbepkegffhaaa
open Go.ChangeShapes Go.WideShapes Go.ChangeAt Go.RowKit
set_option linter.unusedVariables false
set_option linter.unusedSimpArgs false

theorem redge_is {q f m : Int} {v : Bool} (w : World) (h : edgeB q f m = v) : Calls Try.prog 13 #[.agg #[.int .i64 q, .int .i64 f], .int .i64 m] w (TestPost v w) := by
  rw [← h]; exact redge_any q f m w
theorem rindex_is {i n p k : Int} {v : Bool} (w : World) (i0 : -9223372036854775808 ≤ i) (i1 : i ≤ 9223372036854775807) (h1 : idxN i n p = k) (h2 : idxB i n p = v) :
    Calls Try.prog 11 #[.int .i64 i, .int .i64 n, .int .i64 p] w fun e w' => e = .returned (.tuple #[.int .i64 k, .bool v]) ∧ w = w' := by
  rw [← h1, ← h2]; exact rindex_any i n p w i0 i1
/-- an edge in a block, three numbers in another one; only new blocks have come -/
def OutI (w : World) (b0 b1 : Nat) (q f y0 y1 y2 : Int) (w' : World) : Prop :=
  Below w.heap.size w w' ∧ w'.cell? ⟨b0, 0, none⟩ = some (.int .i64 q) ∧ w'.cell? ⟨b0, 1, none⟩ = some (.int .i64 f) ∧ w'.cell? ⟨b1, 0, none⟩ = some (.int .i64 y0) ∧ w'.cell? ⟨b1, 1, none⟩ = some (.int .i64 y1) ∧ w'.cell? ⟨b1, 2, none⟩ = some (.int .i64 y2)
theorem OutI.keep {w : World} {b0 b1 : Nat} {q f y0 y1 y2 : Int} {w1 w2 : World} (h : OutI w b0 b1 q f y0 y1 y2 w1) (hb : Below w1.heap.size w1 w2) : OutI w b0 b1 q f y0 y1 y2 w2 := by
  obtain ⟨h0, h1, h2, h3, h4, h5⟩ := h
  exact ⟨bthen h0 hb, bkeep hb h1, bkeep hb h2, bkeep hb h3, bkeep hb h4, bkeep hb h5⟩
theorem OutI.cell {w : World} {b0 b1 : Nat} {q f y0 y1 y2 : Int} {w1 : World} (h : OutI w b0 b1 q f y0 y1 y2 w1) {k : Nat} (hk : k < 3) : ∃ y, w1.cell? ⟨b1, k, none⟩ = some (.int .i64 y) := by
  obtain ⟨_, _, _, h3, h4, h5⟩ := h
  rcases (show k = 0 ∨ k = 1 ∨ k = 2 by omega) with rfl | rfl | rfl
  · exact ⟨_, h3⟩
  · exact ⟨_, h4⟩
  · exact ⟨_, h5⟩
/-- three numbers in a block; only new blocks have come -/
def MidI (w : World) (b1 : Nat) (y0 y1 y2 : Int) (w' : World) : Prop :=
  Below w.heap.size w w' ∧ w'.cell? ⟨b1, 0, none⟩ = some (.int .i64 y0) ∧ w'.cell? ⟨b1, 1, none⟩ = some (.int .i64 y1) ∧ w'.cell? ⟨b1, 2, none⟩ = some (.int .i64 y2)
theorem MidI.keep {w : World} {b1 : Nat} {y0 y1 y2 : Int} {w1 w2 : World} (h : MidI w b1 y0 y1 y2 w1) (hb : Below w1.heap.size w1 w2) : MidI w b1 y0 y1 y2 w2 := by
  obtain ⟨h0, h3, h4, h5⟩ := h
  exact ⟨bthen h0 hb, bkeep hb h3, bkeep hb h4, bkeep hb h5⟩
theorem MidI.cell {w : World} {b1 : Nat} {y0 y1 y2 : Int} {w1 : World} (h : MidI w b1 y0 y1 y2 w1) {k : Nat} (hk : k < 3) : ∃ y, w1.cell? ⟨b1, k, none⟩ = some (.int .i64 y) := by
  obtain ⟨_, h3, h4, h5⟩ := h
  rcases (show k = 0 ∨ k = 1 ∨ k = 2 by omega) with rfl | rfl | rfl
  · exact ⟨_, h3⟩
  · exact ⟨_, h4⟩
  · exact ⟨_, h5⟩
/-- an edge in a block; only new blocks have come -/
abbrev EdgeS (w : World) (b : Nat) (q f : Int) (w' : World) : Prop := Hid (Below w.heap.size w w') ∧ w'.cell? ⟨b, 0, none⟩ = some (.int .i64 q) ∧ w'.cell? ⟨b, 1, none⟩ = some (.int .i64 f)
theorem edgeS_keep {w : World} {b : Nat} {q f : Int} {w1 w2 : World} (hb : Below w1.heap.size w1 w2) (h : EdgeS w b q f w1) : EdgeS w b q f w2 :=
  ⟨Lib.hid (bthen h.1.out hb), bkeep hb h.2.1, bkeep hb h.2.2⟩
theorem edgeS_drew {w : World} {b : Nat} {q f : Int} {w1 : World} (h : EdgeS w b q f w1) : EdgeS w b q f w1.drew :=
  ⟨Lib.hid ⟨h.1.out.os, h.1.out.tape, h.1.out.output, h.1.out.size, h.1.out.block⟩, h.2.1, h.2.2⟩
set_option maxHeartbeats 2000000 in
set_option maxRecDepth 100000 in
theorem index_walk (q f mx i n p : Int) (w : World) (i0 : -9223372036854775808 ≤ i) (i1 : i ≤ 9223372036854775807) (n0 : -9223372036854775808 ≤ n) (n1 : n ≤ 9223372036854775807) (p0 : -9223372036854775808 ≤ p) (p1 : p ≤ 9223372036854775807) :
    Calls Try.prog 4 #[.agg #[.int .i64 q, .int .i64 f], .int .i64 mx, .int .i64 i, .int .i64 n, .int .i64 p] w (TestPost true w) := by
  have c0 := Int.emod_nonneg i (show (40 : Int) ≠ 0 by omega)
  have c1 := Int.emod_lt_of_pos i (show (0 : Int) < 40 by omega)
  have m0 := Int.emod_nonneg n (show (128 : Int) ≠ 0 by omega)
  have m1 := Int.emod_lt_of_pos n (show (0 : Int) < 128 by omega)
  have l0 := Int.emod_nonneg n (show (5 : Int) ≠ 0 by omega)
  have l1 := Int.emod_lt_of_pos n (show (0 : Int) < 5 by omega)
  have q0 := Int.emod_nonneg p (show (6 : Int) ≠ 0 by omega)
  have q1 := Int.emod_lt_of_pos p (show (0 : Int) < 6 by omega)
  have e0 := Int.emod_nonneg p (show (4 : Int) ≠ 0 by omega)
  have e1 := Int.emod_lt_of_pos p (show (0 : Int) < 4 by omega)
  go_enter Try.func4, Try.ntmps4
  go_wp2_with fail
  refine (mod_any p 6 _ (by omega) (by omega) p0 p1).mono ?_; rintro e w1 ⟨rfl, rfl⟩
  go_wp2_with fail
  refine (mod_any p 4 _ (by omega) (by omega) p0 p1).mono ?_; rintro e w1 ⟨rfl, rfl⟩
  go_wp2_with fail
  go_loopw [30] (fun j wr => ∃ k : Nat, k ≤ 3 ∧ j = .int .i64 k ∧ Hid (OutI w w.heap.size (w.heap.size + 1) q f p (p % 6 - 1) (p % 4) wr)) (fun j _ => 3 - (intOf j).toNat)
  case atStart => exact ⟨0, by omega, rfl, Lib.hid ⟨balloc (balloc (bref _) _) _, by go_cell, by go_cell, by go_cell, by go_cell, by go_cell⟩⟩
  case round =>
    obtain ⟨k, hk, rfl, hO⟩ := hrel
    by_cases hlt : k < 3
    · have hkI : (k : Int) < 3 := by omega
      generalize wr = wo at *
      obtain ⟨Y, hY⟩ := hO.out.cell hlt
      clear q0 q1 e0 e1
      go_wp2_with fail
      refine (mod_any n 128 _ (by omega) (by omega) n0 n1).mono ?_; rintro e w1 ⟨rfl, rfl⟩
      go_wp2_with fail
      refine (mod_any n 5 _ (by omega) (by omega) n0 n1).mono ?_; rintro e w1 ⟨rfl, rfl⟩
      go_wp2_with fail
      clear hY
      go_loopw [43] (fun j wr => ∃ k2 : Nat, k2 ≤ 3 ∧ j = .int .i64 k2 ∧ Hid (MidI wo wo.heap.size n (1 + n % 128) (1 + n % 5) wr)) (fun j _ => 3 - (intOf j).toNat)
      case atStart => exact ⟨0, by omega, rfl, Lib.hid ⟨balloc (bref _) _, by go_cell, by go_cell, by go_cell⟩⟩
      case round =>
        obtain ⟨k2, hk2, rfl, hM⟩ := hrel
        by_cases hlt2 : k2 < 3
        · have hkI2 : (k2 : Int) < 3 := by omega
          obtain ⟨Z, hZ⟩ := hM.out.cell hlt2
          clear m0 m1 l0 l1
          go_wp2_with fail
          refine (mod_any i 40 _ (by omega) (by omega) i0 i1).mono ?_; rintro e w1 ⟨rfl, rfl⟩
          go_wp2_with fail
          clear hZ
          have hM3 := Lib.hid (hM.out.keep (balloc (bref wr) (.cells #[.int .i64 i, .int .i64 (i % 40 - 15)] 3)))
          go_loop [53] (fun j => ∃ k3 : Nat, k3 ≤ 2 ∧ j = .int .i64 k3) (fun j => 2 - (intOf j).toNat)
          case atStart => exact ⟨0, by omega, rfl⟩
          case round =>
            obtain ⟨k3, hk3, rfl⟩ := hrel
            by_cases hlt3 : k3 < 2
            · have hkI3 : (k3 : Int) < 2 := by omega
              obtain ⟨C, hC, x0, x1⟩ : ∃ C : Int, (wr.alloc (.cells #[.int .i64 i, .int .i64 (i % 40 - 15)] 3)).cell? ⟨wr.heap.size, k3, none⟩ = some (.int .i64 C) ∧ -9223372036854775808 ≤ C ∧ C ≤ 9223372036854775807 := by
                rcases (show k3 = 0 ∨ k3 = 1 by omega) with rfl | rfl
                · exact ⟨i, by go_cell, i0, i1⟩
                · exact ⟨i % 40 - 15, by go_cell, by omega, by omega⟩
              obtain ⟨wi, ewi⟩ : ∃ wi, wr.alloc (.cells #[.int .i64 i, .int .i64 (i % 40 - 15)] 3) = wi := ⟨_, rfl⟩
              rw [ewi] at hC
              simp only [ewi]
              clear hM3
              obtain ⟨V, VB, hV⟩ : ∃ V VB, idxN C Z Y = V ∧ idxB C Z Y = VB := ⟨_, _, rfl, rfl⟩
              have hV' := Lib.hid hV
              clear hV
              go_wp2_with fail
              refine (index_is _ x0 x1 hV'.out.1 hV'.out.2).mono ?_; rintro e w1 ⟨rfl, rfl⟩
              go_wp2_with fail
              refine (rindex_is _ x0 x1 hV'.out.1 hV'.out.2).mono ?_; rintro e w1 ⟨rfl, rfl⟩
              go_wp2_with fail
              go_round
              case rel => exact ⟨k3 + 1, by omega, by go_num⟩
              case measure => simp [intOf]; omega
            · obtain rfl : k3 = 2 := by omega
              go_wp2_with fail
              go_roundw
              case rel => exact ⟨k2 + 1, by omega, by go_num, hM3⟩
              case measure => simp [intOf]; omega
        · obtain rfl : k2 = 3 := by omega
          have hO2 := Lib.hid (hO.out.keep hM.out.1)
          clear hM hO
          have hF := hO2.out.2.2.1
          obtain ⟨V, hV⟩ : ∃ V, edgeB Y f mx = V := ⟨_, rfl⟩
          have hV' := Lib.hid hV
          clear hV
          go_wp2_with fail
          have hO3 := Lib.hid (hO2.out.keep (balloc (bref wr) (.cells #[.int .i64 Y, .int .i64 f] 28)))
          have hS : EdgeS (wr.alloc (.cells #[.int .i64 Y, .int .i64 f] 28)) wr.heap.size Y f (wr.alloc (.cells #[.int .i64 Y, .int .i64 f] 28)) := ⟨Lib.hid (bref _), by go_cell, by go_cell⟩
          obtain ⟨wf, ewf⟩ : ∃ wf, wr.alloc (.cells #[.int .i64 Y, .int .i64 f] 28) = wf := ⟨_, rfl⟩
          rw [ewf] at hS hO3
          simp only [ewf]
          clear hO2 hF
          replace hS : EdgeS wf wr.heap.size Y f wf.drew := edgeS_drew hS
          go_region_held3 (fun w' => EdgeS wf wr.heap.size Y f w') ((first | exact hS | exact edgeS_keep hb ‹_›))
            (first
              | (go_at_call 12; refine (edge_is _ hV'.out).mono ?_; rintro e w1 ⟨rfl, hb⟩; have hb1 := hb)
              | (go_at_call 13; refine (redge_is _ hV'.out).mono ?_; rintro e w2 ⟨rfl, hb⟩; have hb1 := hb))
          all_goals
            have hE := (show EdgeS wf wr.heap.size Y f _ from ‹_›).1
            go_wp2_with fail
            go_roundw
            case rel => exact ⟨k + 1, by omega, by go_num, Lib.hid (hO3.out.keep hE.out)⟩
            case measure => simp [intOf]; omega
    · obtain rfl : k = 3 := by omega
      have hS : EdgeS wr w.heap.size q f wr := ⟨Lib.hid (bref _), hO.out.2.1, hO.out.2.2.1⟩
      replace hS : EdgeS wr w.heap.size q f wr.drew := edgeS_drew hS
      have hB := Lib.hid hO.out.1
      clear hO
      obtain ⟨V, hV⟩ : ∃ V, edgeB q f mx = V := ⟨_, rfl⟩
      have hV' := Lib.hid hV
      clear hV
      go_wp2_with fail
      go_region_held3 (fun w' => EdgeS wr w.heap.size q f w') ((first | exact hS | exact edgeS_keep hb ‹_›))
        (first
          | (go_at_call 12; refine (edge_is _ hV'.out).mono ?_; rintro e w1 ⟨rfl, hb⟩; have hb1 := hb)
          | (go_at_call 13; refine (redge_is _ hV'.out).mono ?_; rintro e w2 ⟨rfl, hb⟩; have hb1 := hb)
          | (go_at_call 10; refine (sane_any _).mono ?_; rintro e w3 ⟨rfl, hb⟩; have hb1 := hb))
      all_goals
        have hE := (show EdgeS wr w.heap.size q f _ from ‹_›).1
        go_wp2_with fail
        go_ret
        exact ⟨rfl, bthen hB.out hE.out⟩
namespace borderIndex
theorem own : ownKnob Try.prog.godebug = none := by kernel_rfl
theorem laid : laidOutB Try.prog = true := by kernel_rfl
theorem cells2e : Try.prog.cellsOf 28 = 2 := by kernel_rfl
theorem params_ok : ∀ t ∈ Try.f4.params.toList, Try.prog.readableRec t = true ∧ t < Try.prog.types.size := by
  rw [Try.params4]
  intro t ht
  simp at ht
  rcases ht with rfl | rfl | rfl | rfl | rfl <;> exact ⟨by kernel_rfl, of_decide_eq_true (by kernel_rfl)⟩
set_option maxRecDepth 100000 in
theorem lifted (os : Os) (started : os.Started) (H : Type) (enc : TypeId × Value → H) :
    ReturnsInHanded {} Try.checked os 4 .any (Rows.borderIndexSpec.pre6 enc Try.prog Try.f4 Rows.borderIndexRow.domain false) (Rows.borderIndexSpec.post enc Try.prog Try.f4 false true false false) := by
  refine returnsInHanded_of_change (C := Try.checked) own started (by kernel_rfl) Try.func4
    (ChangeSpec.witness6 (enc := enc) (C := Try.checked) false ⟨#[], #[.agg #[.int .i64 0, .int .i64 0], .int .i64 0, .int .i64 0, .int .i64 0, .int .i64 0], []⟩ 8 (by kernel_rfl) (by kernel_rfl) (by kernel_rfl) (by kernel_rfl)) ?_
  intro W base args ds gs before hval0 hW hcnd _
  have hval : ∀ (j : Nat) t v, Try.f4.params[j]? = some t → args[j]? = some v → Value.okWide Try.prog W .any base t v := hval0
  have hW' := hW
  obtain ⟨p, q, hA0, hV, rfl, hfz, hnd⟩ := hW
  have hA : DataW.TrodAll enc Try.prog W 0 (fun _ => true) true Try.f4.params.toList args.toList ds p := hA0
  rw [Try.params4] at hA hval
  obtain ⟨v0, vs0, d0, ds0, p0, q0, hargs, rfl, rfl, h0, r0⟩ := trodAll_cons hA
  obtain ⟨v1, vs1, d1, ds1, p1, q1, rfl, rfl, rfl, h1, r1⟩ := trodAll_cons r0
  obtain ⟨v2, vs2, d2, ds2, p2, q2, rfl, rfl, rfl, h2, r2⟩ := trodAll_cons r1
  obtain ⟨v3, vs3, d3, ds3, p3, q3, rfl, rfl, rfl, h3, r3⟩ := trodAll_cons r2
  obtain ⟨v4, vs4, d4, ds4, p4, q4, rfl, rfl, rfl, h4, r4⟩ := trodAll_cons r3
  obtain ⟨rfl, rfl, rfl⟩ := trodAll_nil r4
  obtain rfl : args = #[v0, v1, v2, v3, v4] := by cases args; simp_all
  obtain ⟨rfl, rfl⟩ := trodVars_none hV
  obtain ⟨c0, c1, y0, y1, m, rfl, rfl, rfl, hy0, hy1⟩ := Joins.open_agg2 Try.underlying28 (by kernel_rfl) cells2e (hval 0 28 v0 rfl rfl) h0
  obtain ⟨r0a, ez, _, _⟩ := DataW.trod_int Try.underlying3 hy0
  simp only [List.cons.injEq, and_true] at ez
  subst ez
  obtain ⟨r0b, ez, _, _⟩ := DataW.trod_int Try.underlying3 hy1
  simp only [List.cons.injEq, and_true] at ez
  subst ez
  obtain ⟨i1, rfl, rfl, rfl, w1⟩ := open_int Try.underlying3 (hval 1 3 v1 rfl rfl) h1
  obtain ⟨i2, rfl, rfl, rfl, w2⟩ := open_int Try.underlying3 (hval 2 3 v2 rfl rfl) h2
  obtain ⟨i3, rfl, rfl, rfl, w3⟩ := open_int Try.underlying3 (hval 3 3 v3 rfl rfl) h3
  obtain ⟨i4, rfl, rfl, rfl, w4⟩ := open_int Try.underlying3 (hval 4 3 v4 rfl rfl) h4
  clear hA0 hval0
  have fin : Calls Try.prog 4 #[.agg #[.int .i64 r0a, .int .i64 r0b], .int .i64 i1, .int .i64 i2, .int .i64 i3, .int .i64 i4] W (TestPost true W) := index_walk r0a r0b i1 i2 i3 i4 W (wf_bd w2).1 (wf_bd w2).2 (wf_bd w3).1 (wf_bd w3).2 (wf_bd w4).1 (wf_bd w4).2
  refine fin.mono fun e W' ⟨he, hb⟩ => ?_
  subst he
  exact ⟨_, rfl, law_post laid rfl Try.underlying4 params_ok rfl hW' rfl hb⟩

theorem over : Rows.borderIndexRow.holds Try.pinned (OpenSpec.ofChange Rows.borderIndexSpec) :=
  OpenClaim.holds_of_wide 4 Try.f4 rfl rfl rfl rfl rfl rfl rfl ⟨rfl, rfl, rfl, rfl, rfl⟩ rfl rfl rfl rfl rfl (by kernel_rfl) Try.func4 (by kernel_rfl)
    (of_decide_eq_true (by kernel_rfl)) (by unfold Func.isWrapper; first | (rw [if_pos (by decide +kernel)]; kernel_rfl) | (rw [if_neg (by decide +kernel)]; exact ⟨rfl, rfl⟩))
    (fun os started H enc _ => lifted os started H enc)

/-- the statement -/
theorem proved : Rows.BorderIndexSaid := over
#print axioms proved
end borderIndex
end Go.Proofs.Ytegbepkegffhaaa
