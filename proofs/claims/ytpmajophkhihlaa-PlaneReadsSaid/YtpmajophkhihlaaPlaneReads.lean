/- For every list of numbers, two ints and an edge the statement PlaneReads returns true: the pixels of planes, also outside of them, are those of the reference. No condition. -/
import Derived.Test.YtpmajophkhihlaaPSlice
import Derived.Deep.DeepCutAuto
namespace Go.Proofs.Ytpmajophkhihlaa
open Go.ChangeShapes Go.WideShapes Go.ChangeAt Go.RowKit
set_option linter.unusedVariables false
set_option linter.unusedSimpArgs false

set_option maxRecDepth 100000 in
set_option maxHeartbeats 4000000 in
theorem reads_walk (xs : List Int) (a0 : Option Addr) (cap : Nat) (x y qa qb : Int) (w : World) (hs : SliceIs w a0 xs) (hf : Fits xs) (hl : xs.length ≤ 9223372036854775807) (hx : -9223372036854775808 ≤ x ∧ x ≤ 9223372036854775807) (hy : -9223372036854775808 ≤ y ∧ y ≤ 9223372036854775807) :
    Calls Try.prog 5 #[.slice a0 xs.length cap, .int .i64 x, .int .i64 y, .agg #[.int .i64 qa, .int .i64 qb]] w (TestPost true w) := by
  have hs' := Lib.hid (is_below hs (balloc (bref w) (.cells #[.int .i64 qa, .int .i64 qb] 45)))
  have hf' := Lib.hid hf
  have hxh := Lib.hid hx
  have hyh := Lib.hid hy
  clear hs hf hx hy
  go_enter Try.func5, Try.ntmps5
  go_wp2_with fail
  have hq : (w.alloc (.cells #[.int .i64 qa, .int .i64 qb] 45)).cell? ⟨w.heap.size, 0, none⟩ = some (.int .i64 qa) ∧ (w.alloc (.cells #[.int .i64 qa, .int .i64 qb] 45)).cell? ⟨w.heap.size, 1, none⟩ = some (.int .i64 qb) := ⟨by go_cell, by go_cell⟩
  replace hq := Lib.hid hq
  have hBW := Lib.hid (balloc (bref w) (.cells #[.int .i64 qa, .int .i64 qb] 45))
  obtain ⟨W, eW⟩ : ∃ W, w.alloc (.cells #[.int .i64 qa, .int .i64 qb] 45) = W := ⟨_, rfl⟩
  rw [eW] at hs' hBW hq
  simp only [eW]
  clear eW
  refine (new_any a0 cap xs _ hs'.out hf'.out hl).mono ?_; rintro e w1 ⟨rfl, hT⟩
  have hS := Lib.hid (St.start hT)
  clear hT
  go_wp2_with fail
  refine (plane_any W W.heap.size a0 cap xs _ hS.out.tape).mono ?_; rintro e w2 ⟨c, h, hc, hh, m, g, L, rfl, hv, hm, hP, hT, hg⟩
  replace hS := Lib.hid ((hS.out.drawn hP hT hg).new (.int .i64 c) (.int .i64 h) (.int .i64 m) (.slice (some ⟨g, 0, none⟩) L.length L.length) 26)
  have hv' := Lib.hid hv
  have hL := Lib.hid (plane_len hv)
  have hL1 := Lib.hid (plane_pos hv)
  have hm1 := (sizeB_t.1 (planeB_t.1 hv).1).2.2.2.1
  clear hP hT hg hv
  go_wp2_with fail
  refine (next_some W W.heap.size a0 cap xs _ _ hS.out.tape (by omega) (by omega)).mono ?_; rintro e w3 ⟨d, rfl, ⟨d0, d1⟩, hT, hg⟩
  replace hS := Lib.hid (hS.out.draw hT hg)
  clear hT hg
  go_upto_if 21 with fail
  go_cut [] (fun wx => ∃ (X Y Z : Int) (K : List Int) (sl : Option Addr) (kc : Nat), K.length ≤ 4097 ∧ (-9223372036854775808 ≤ Z ∧ Z ≤ 9223372036854775807) ∧ Hid (Sr W W.heap.size a0 cap xs [.box w2.heap.size (.int .i64 X) (.int .i64 Y) (.int .i64 Z) (.slice sl K.length kc), .pix g L.length L] sl K wx))
  case first =>
    by_cases h7 : d = 7
    · subst h7
      obtain ⟨⟨p0, p1, p2, p3⟩, r0, r1, r2, r3⟩ := (show Box4 _ _ _ _ _ _ from hS.out.en.ok _ (List.mem_cons_self ..))
      go_wp2_with fail
      refine (spoil_any W W.heap.size a0 cap xs c h m L _ L.length _ hS.out.tape (hS.out.en.isS g L.length (by simp)) hL1.out hL.out (by omega) (by omega) (by omega)).mono ?_; rintro e w4 ⟨X, Y, Z, K, sl, kc, rfl, hsl, hKl, hX, hY, hZ, hT, hg, hfr⟩
      have hw3 := hS.out.en.lt (.box w2.heap.size (.int .i64 c) (.int .i64 h) (.int .i64 m) (.slice (some ⟨g, 0, none⟩) L.length L.length)) (by simp)
      have hp3 := hS.out.tape.lt.1
      have hw3' : w2.heap.size < w3.heap.size := hw3
      have hfr' := Lib.hid hfr
      have hsl' := Lib.hid hsl
      replace hS := Lib.hid (hS.out.draw hT hg)
      clear hT hg p0 p1 p2 p3 r0 r1 r2 r3 hw3 hfr hsl
      obtain ⟨⟨p0, p1, p2, p3⟩, r0, r1, r2, r3⟩ := (show Box4 _ _ _ _ _ _ from hS.out.en.ok _ (List.mem_cons_self ..))
      go_wp2_with fail
      go_meet
      refine ⟨X, Y, Z, K, sl, kc, hKl, hZ, Lib.hid ⟨hS.out.setbox _ _ _ _, is_grown hsl'.out (gput4 (gref _ (some w2.heap.size)) (.inr rfl) _ _ _ _) (fun b o e => by have := hfr'.out b o e; simp; omega), fun b o e => by have := hfr'.out b o e; omega⟩⟩
    · have h7' : (d == 7) = false := beq_false_of_ne h7
      go_wp2_with fail
      go_meet
      exact ⟨c, h, m, L, _, L.length, by have := hL.out; omega, by omega, Lib.hid ⟨hS.out, hS.out.en.isS g L.length (by simp), fun b o e => by have := (hS.out.en.far (.pix g L.length L) (by simp)).2; simp [Th.blk] at this e; omega⟩⟩
  case rest =>
    clear hS
    obtain ⟨X, Y, Z, K, sl, kc, hKl, hZ, hS⟩ := hcut
    go_wp2_with fail
    go_loopw [11] (fun i wr => ∃ k : Nat, k ≤ 8 ∧ i = .int .i64 k ∧ Hid (Sr W W.heap.size a0 cap xs [.box w2.heap.size (.int .i64 X) (.int .i64 Y) (.int .i64 Z) (.slice sl K.length kc), .pix g L.length L] sl K wr)) (fun i _ => 8 - (intOf i).toNat)
    case atStart => exact ⟨0, by omega, rfl, hS⟩
    case round =>
      clear hS
      obtain ⟨k, hk, rfl, hS⟩ := hrel
      by_cases hlt : k < 8
      · have hkI : (k : Int) < 8 := by omega
        obtain ⟨p0, p1, p2, p3⟩ := hS.out.st.en.box w2.heap.size (v0 := .int .i64 X) (v1 := .int .i64 Y) (v2 := .int .i64 Z) (v3 := .slice sl K.length kc) (by simp)
        go_wp2_with fail
        refine (edge_tape W W.heap.size a0 cap xs Z _ hS.out.st.tape hZ.1 hZ.2).mono ?_; rintro e w6 ⟨q0, f0, rfl, _, _, _, hT, hg⟩
        replace hS := Lib.hid (hS.out.draw hT hg)
        clear hT hg p0 p1 p2 p3
        go_wp2_with fail
        refine (next_some W W.heap.size a0 cap xs _ _ hS.out.st.tape (by omega) (by omega)).mono ?_; rintro e w7 ⟨u, rfl, ⟨u0, u1⟩, hT, hg⟩
        replace hS := Lib.hid (hS.out.draw hT hg)
        clear hT hg
        go_wp2_with fail
        refine (next_some W W.heap.size a0 cap xs _ _ hS.out.st.tape (by omega) (by omega)).mono ?_; rintro e w8 ⟨v, rfl, ⟨v0, v1⟩, hT, hg⟩
        have hS0 := Lib.hid (hS.out.draw hT hg)
        replace hS := Lib.hid (hS0.out.new2 (.int .i64 q0) (.int .i64 f0) 45)
        clear hT hg
        go_upto_if 40 with fail
        have hlt8 := Lib.hid (show ∀ j, j < K.length → ∃ b' o, sl = some ⟨b', o, none⟩ ∧ ¬ b' = w8.heap.size from fun j hj => by
          obtain ⟨b', off, e, hc⟩ := hS0.out.isl j hj
          exact ⟨b', off, e, by have := World.block_lt_of_cell? _ _ hc; simp at this; omega⟩)
        go_cut [13, 14] (fun s t wx => ∃ U V : Int, s = .int .i64 U ∧ t = .int .i64 V ∧ Hid ((-9223372036854775808 ≤ U ∧ U ≤ 9223372036854775807) ∧ (-9223372036854775808 ≤ V ∧ V ≤ 9223372036854775807)) ∧ Hid (Sr W W.heap.size a0 cap xs [.two w8.heap.size (.int .i64 q0) (.int .i64 f0), .box w2.heap.size (.int .i64 X) (.int .i64 Y) (.int .i64 Z) (.slice sl K.length kc), .pix g L.length L] sl K wx))
        case first =>
          by_cases h5 : (k : Int) > 5
          · go_wp2_with fail
            go_meet
            exact ⟨x, y, rfl, rfl, Lib.hid ⟨hxh.out, hyh.out⟩, hS⟩
          · go_wp2_with fail
            go_meet
            exact ⟨_, _, rfl, rfl, Lib.hid ⟨⟨by omega, by omega⟩, ⟨by omega, by omega⟩⟩, hS⟩
        case rest =>
          clear hS hS0
          obtain ⟨U, V, rfl, rfl, hUV, hS⟩ := hcut
          go_upto_if 44 with fail
          go_cut [] (fun wx => ∃ Q F : Int, Hid (Sr W W.heap.size a0 cap xs [.two w8.heap.size (.int .i64 Q) (.int .i64 F), .box w2.heap.size (.int .i64 X) (.int .i64 Y) (.int .i64 Z) (.slice sl K.length kc), .pix g L.length L] sl K wx))
          case first =>
            by_cases h7 : k = 7
            · subst h7
              obtain ⟨⟨p0, p1⟩, r0, r1⟩ := (show Box2 _ _ _ _ from hS.out.st.en.ok _ (List.mem_cons_self ..))
              have t0 := bkeep hS.out.st.below hq.out.1
              have t1 := bkeep hS.out.st.below hq.out.2
              go_wp2_with fail
              go_meet
              exact ⟨_, _, Lib.hid (hS.out.set2 hlt8.out _ _)⟩
            · have h7' : ((k : Int) == 7) = false := beq_false_of_ne (by omega)
              go_wp2_with fail
              go_meet
              exact ⟨_, _, hS⟩
          case rest =>
            clear hS
            obtain ⟨Q, F, hS⟩ := hcut
            obtain ⟨v, ev⟩ : ∃ v, atN X Y Z K Q F U V = v := ⟨_, rfl⟩
            have ev' := Lib.hid ev
            have hO : AtS W W.heap.size a0 cap xs [.two w8.heap.size (.int .i64 Q) (.int .i64 F), .box w2.heap.size (.int .i64 X) (.int .i64 Y) (.int .i64 Z) (.slice sl K.length kc), .pix g L.length L] sl K w2.heap.size (.int .i64 X) (.int .i64 Y) (.int .i64 Z) (.slice sl K.length kc) w8.heap.size (.int .i64 Q) (.int .i64 F) wc.drew := atS_of (hS.out.call (bdrewN (bref _) 1)) (by simp) (by simp)
            clear ev hS
            go_upto_region 13 with fail
            first | go_must (go_region_held3 (fun w' => AtS W W.heap.size a0 cap xs [.two w8.heap.size (.int .i64 Q) (.int .i64 F), .box w2.heap.size (.int .i64 X) (.int .i64 Y) (.int .i64 Z) (.slice sl K.length kc), .pix g L.length L] sl K w2.heap.size (.int .i64 X) (.int .i64 Y) (.int .i64 Z) (.slice sl K.length kc) w8.heap.size (.int .i64 Q) (.int .i64 F) w') ((first | with_reducible exact hO | with_reducible exact atS_below hb ‹_›))
              (first
                | (go_at_call 26; refine (pat_is ev'.out sl kc _ (‹AtS W W.heap.size a0 cap xs [.two w8.heap.size (.int .i64 Q) (.int .i64 F), .box w2.heap.size (.int .i64 X) (.int .i64 Y) (.int .i64 Z) (.slice sl K.length kc), .pix g L.length L] sl K w2.heap.size (.int .i64 X) (.int .i64 Y) (.int .i64 Z) (.slice sl K.length kc) w8.heap.size (.int .i64 Q) (.int .i64 F) _›).1.out.1.isl (by omega) hUV.out.1 hUV.out.2).mono ?_; rintro e w9 ⟨rfl, hb⟩)
                | (go_at_call 27; refine (rat_is ev'.out sl kc _ (‹AtS W W.heap.size a0 cap xs [.two w8.heap.size (.int .i64 Q) (.int .i64 F), .box w2.heap.size (.int .i64 X) (.int .i64 Y) (.int .i64 Z) (.slice sl K.length kc), .pix g L.length L] sl K w2.heap.size (.int .i64 X) (.int .i64 Y) (.int .i64 Z) (.slice sl K.length kc) w8.heap.size (.int .i64 Q) (.int .i64 F) _›).1.out.1.isl (by omega) hUV.out.1 hUV.out.2).mono ?_; rintro e w10 ⟨rfl, hb⟩))) | skip
            all_goals
              have hfin := Lib.hid ((show AtS W W.heap.size a0 cap xs [.two w8.heap.size (.int .i64 Q) (.int .i64 F), .box w2.heap.size (.int .i64 X) (.int .i64 Y) (.int .i64 Z) (.slice sl K.length kc), .pix g L.length L] sl K w2.heap.size (.int .i64 X) (.int .i64 Y) (.int .i64 Z) (.slice sl K.length kc) w8.heap.size (.int .i64 Q) (.int .i64 F) _ from ‹_›).1.out.1.drop 1)
              have hvv : (v != v) = false := by simp
              go_wp2_with fail
              go_roundw
              case rel => exact ⟨k + 1, by omega, by go_num, hfin⟩
              case measure => simp [intOf]; omega
      · obtain rfl : k = 8 := by omega
        go_wp2_with fail
        refine (sane_any _).mono ?_; rintro e w9 ⟨rfl, hb⟩
        go_wp2_with fail
        go_ret
        exact ⟨rfl, bthen hBW.out (bthen hS.out.st.below hb)⟩

namespace planeReads
theorem own : ownKnob Try.prog.godebug = none := by kernel_rfl
theorem laid : laidOutB Try.prog = true := by kernel_rfl
theorem cells2e : Try.prog.cellsOf 45 = 2 := by kernel_rfl
theorem params_ok : ∀ t ∈ Try.f5.params.toList, Try.prog.readableRec t = true ∧ t < Try.prog.types.size := by
  rw [Try.params5]
  intro t ht
  simp at ht
  rcases ht with rfl | rfl | rfl | rfl <;> exact ⟨by kernel_rfl, of_decide_eq_true (by kernel_rfl)⟩
set_option maxRecDepth 100000 in
theorem lifted (os : Os) (started : os.Started) (H : Type) (enc : TypeId × Value → H) :
    ReturnsInHanded {} Try.checked os 5 .any (Rows.planeReadsSpec.pre6 enc Try.prog Try.f5 Rows.planeReadsRow.domain false) (Rows.planeReadsSpec.post enc Try.prog Try.f5 false true false false) := by
  refine returnsInHanded_of_change (C := Try.checked) own started (by kernel_rfl) Try.func5
    (ChangeSpec.witness6 (enc := enc) (C := Try.checked) false ⟨#[], #[.slice none 0 0, .int .i64 0, .int .i64 0, .agg #[.int .i64 0, .int .i64 0]], []⟩ 8 (by kernel_rfl) (by kernel_rfl) (by kernel_rfl) (by kernel_rfl)) ?_
  intro W base args ds gs before hval0 hW hcnd _
  have hval : ∀ (j : Nat) t v, Try.f5.params[j]? = some t → args[j]? = some v → Value.okWide Try.prog W .any base t v := hval0
  have hW' := hW
  obtain ⟨p, q, hA0, hV, rfl, hfz, hnd⟩ := hW
  have hA : DataW.TrodAll enc Try.prog W 0 (fun _ => true) true Try.f5.params.toList args.toList ds p := hA0
  rw [Try.params5] at hA hval
  obtain ⟨v0, vs0, d0, ds0, p0, q0, hargs, rfl, rfl, h0, r0⟩ := trodAll_cons hA
  obtain ⟨v1, vs1, d1, ds1, p1, q1, rfl, rfl, rfl, h1, r1⟩ := trodAll_cons r0
  obtain ⟨v2, vs2, d2, ds2, p2, q2, rfl, rfl, rfl, h2, r2⟩ := trodAll_cons r1
  obtain ⟨v3, vs3, d3, ds3, p3, q3, rfl, rfl, rfl, h3, r3⟩ := trodAll_cons r2
  obtain ⟨rfl, rfl, rfl⟩ := trodAll_nil r3
  obtain rfl : args = #[v0, v1, v2, v3] := by cases args; simp_all
  obtain ⟨rfl, rfl⟩ := trodVars_none hV
  obtain ⟨a0, len, cap, rfl⟩ := okWide_slice Try.underlying22 (hval 0 22 v0 rfl rfl)
  obtain ⟨xs, rfl, hs, hf, hl⟩ := open_list h0
  obtain ⟨i1, rfl, rfl, rfl, w1⟩ := open_int Try.underlying3 (hval 1 3 v1 rfl rfl) h1
  obtain ⟨i2, rfl, rfl, rfl, w2⟩ := open_int Try.underlying3 (hval 2 3 v2 rfl rfl) h2
  obtain ⟨c0, c1, y0, y1, m, rfl, rfl, rfl, hy0, hy1⟩ := Joins.open_agg2 Try.underlying45 (by kernel_rfl) cells2e (hval 3 45 v3 rfl rfl) h3
  obtain ⟨r3a, ez, _, _⟩ := DataW.trod_int Try.underlying3 hy0
  simp only [List.cons.injEq, and_true] at ez
  subst ez
  obtain ⟨r3b, ez, _, _⟩ := DataW.trod_int Try.underlying3 hy1
  simp only [List.cons.injEq, and_true] at ez
  subst ez
  clear hA0 hval0
  have fin : Calls Try.prog 5 #[.slice a0 xs.length cap, .int .i64 i1, .int .i64 i2, .agg #[.int .i64 r3a, .int .i64 r3b]] W (TestPost true W) := reads_walk xs a0 cap i1 i2 r3a r3b W hs hf hl (wf_bd w1) (wf_bd w2)
  refine fin.mono fun e W' ⟨he, hb⟩ => ?_
  subst he
  exact ⟨_, rfl, law_post laid rfl Try.underlying4 params_ok rfl hW' rfl hb⟩

theorem over : Rows.planeReadsRow.holds Try.pinned (OpenSpec.ofChange Rows.planeReadsSpec) :=
  OpenClaim.holds_of_wide 5 Try.f5 rfl rfl rfl rfl rfl rfl rfl ⟨rfl, rfl, rfl, rfl, rfl⟩ rfl rfl rfl rfl rfl (by kernel_rfl) Try.func5 (by kernel_rfl)
    (of_decide_eq_true (by kernel_rfl)) (by unfold Func.isWrapper; first | (rw [if_pos (by decide +kernel)]; kernel_rfl) | (rw [if_neg (by decide +kernel)]; exact ⟨rfl, rfl⟩))
    (fun os started H enc _ => lifted os started H enc)

/-- the statement -/
theorem proved : Rows.PlaneReadsSaid := over
#print axioms proved
end planeReads
end Go.Proofs.Ytpmajophkhihlaa
