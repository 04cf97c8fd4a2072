/- BorderSpan: the bounds of a range are attained, and no coordinate of the range is mapped beyond them, for all ints. No condition. -/
import Derived.Test.YtegbepkegffhaaaBEdge
import Derived.Test.YtegbepkegffhaaaBFacts
import Derived.Test.YtegbepkegffhaaaBRRange
import Derived.Test.YtegbepkegffhaaaLaw
namespace Go.Proofs.Ytegbepkegffhaaa
open Go.ChangeShapes Go.WideShapes Go.ChangeAt Go.RowKit
set_option linter.unusedVariables false
set_option linter.unusedSimpArgs false

/-- some coordinate of the range is mapped to x -/
def Att (a j n p x : Int) : Prop := ∃ i, a ≤ i ∧ i < j ∧ idxO i n p = some x
theorem att_keep {a j n p x k : Int} (h : ¬ Att a j n p x) (hk : idxO j n p = some k) (hne : ¬ k = x) : ¬ Att a (j + 1) n p x := by
  rintro ⟨i, h1, h2, h3⟩
  by_cases e : i = j
  · subst e; rw [hk, Option.some.injEq] at h3; exact hne h3
  · exact h ⟨i, h1, by omega, h3⟩
theorem att_skip {a j n p x : Int} (h : ¬ Att a j n p x) (hk : idxO j n p = none) : ¬ Att a (j + 1) n p x := by
  rintro ⟨i, h1, h2, h3⟩
  by_cases e : i = j
  · subst e; rw [hk] at h3; cases h3
  · exact h ⟨i, h1, by omega, h3⟩
/-- a mark that is not set says that x was not attained -/
def Mark (v : Bool) (a j n p x : Int) : Prop := v = false → ¬ Att a j n p x
/-- the mark of mapped coordinates -/
def Some (v : Bool) (a j n p : Int) : Prop := v = false → ∀ i, a ≤ i → i < j → idxO i n p = none
theorem mark_set {a j n p x : Int} : Mark true a j n p x := fun h => by cases h
theorem mark_step {a j n p x k : Int} (h : Mark false a j n p x) (hk : idxO j n p = some k) (hne : ¬ k = x) : Mark false a (j + 1) n p x := fun _ => att_keep (h rfl) hk hne
theorem mark_step2 {v v' : Bool} {a j n p x k : Int} (h : Mark v a j n p x) (hk : idxO j n p = some k) (hne : v' = false → v = false ∧ ¬ k = x) : Mark v' a (j + 1) n p x := fun e => att_keep (h (hne e).1) hk (hne e).2
theorem mark_skip {v : Bool} {a j n p x : Int} (h : Mark v a j n p x) (hk : idxO j n p = none) : Mark v a (j + 1) n p x := fun e => att_skip (h e) hk
theorem some_skip {v : Bool} {a j n p : Int} (h : Some v a j n p) (hk : idxO j n p = none) : Some v a (j + 1) n p := fun e i h1 h2 => by
  by_cases g : i = j
  · subst g; exact hk
  · exact h e i h1 (by omega)
theorem some_set {a j n p : Int} : Some true a j n p := fun h => by cases h
theorem mark_start (a n p x : Int) : Mark false a a n p x := fun _ ⟨i, h1, h2, _⟩ => by omega
theorem some_start (a n p : Int) : Some false a a n p := fun _ i h1 h2 => by omega
theorem mark_end {v : Bool} {a b n p x : Int} (h : Mark v a b n p x) (ha : Att a b n p x) : v = true := by
  rcases v with _ | _
  · exact (h rfl ha).elim
  · rfl
theorem some_end {v : Bool} {a b n p x : Int} (h : Some v a b n p) (ha : Att a b n p x) : v = true := by
  rcases v with _ | _
  · obtain ⟨i, h1, h2, h3⟩ := ha
    rw [h rfl i h1 h2] at h3; cases h3
  · rfl
set_option maxHeartbeats 1000000 in
set_option maxRecDepth 100000 in
theorem span_walk (f l n p : Int) (w : World) (f0 : -9223372036854775808 ≤ f) (f1 : f ≤ 9223372036854775807) (l0 : -9223372036854775808 ≤ l) (l1 : l ≤ 9223372036854775807)
    (n0 : -9223372036854775808 ≤ n) (n1 : n ≤ 9223372036854775807) (p0 : -9223372036854775808 ≤ p) (p1 : p ≤ 9223372036854775807) :
    Calls Try.prog 7 #[.int .i64 f, .int .i64 l, .int .i64 n, .int .i64 p] w (TestPost true w) := by
  have c0 := Int.emod_nonneg f (show (300 : Int) ≠ 0 by omega)
  have c1 := Int.emod_lt_of_pos f (show (0 : Int) < 300 by omega)
  have m0 := Int.emod_nonneg n (show (20 : Int) ≠ 0 by omega)
  have m1 := Int.emod_lt_of_pos n (show (0 : Int) < 20 by omega)
  have q0 := Int.emod_nonneg p (show (4 : Int) ≠ 0 by omega)
  have q1 := Int.emod_lt_of_pos p (show (0 : Int) < 4 by omega)
  have e0 := Int.emod_nonneg l (show (50 : Int) ≠ 0 by omega)
  have e1 := Int.emod_lt_of_pos l (show (0 : Int) < 50 by omega)
  go_enter Try.func7, Try.ntmps7
  go_wp2_with fail
  refine (mod_any f 300 _ (by omega) (by omega) f0 f1).mono ?_; rintro e w1 ⟨rfl, rfl⟩
  go_wp2_with fail
  refine (mod_any n 20 _ (by omega) (by omega) n0 n1).mono ?_; rintro e w1 ⟨rfl, rfl⟩
  go_wp2_with fail
  refine (mod_any p 4 _ (by omega) (by omega) p0 p1).mono ?_; rintro e w1 ⟨rfl, rfl⟩
  go_wp2_with fail
  refine (mod_any l 50 _ (by omega) (by omega) l0 l1).mono ?_; rintro e w1 ⟨rfl, rfl⟩
  generalize f % 300 = C at *
  generalize n % 20 = M at *
  generalize p % 4 = Q at *
  generalize l % 50 = L at *
  go_wp2_with fail
  refine (range_any _ _ _ _ _).mono ?_; rintro e w1 ⟨lo, hi, ok, rfl, HR, rfl⟩
  obtain ⟨A, eA⟩ : ∃ A, C - 150 = A := ⟨_, rfl⟩
  obtain ⟨B, eB⟩ : ∃ B, A + 1 + L = B := ⟨_, rfl⟩
  obtain ⟨N, eN⟩ : ∃ N, 1 + M = N := ⟨_, rfl⟩
  rw [eA, eB, eN] at HR
  simp only [eA, eB, eN]
  have hAB : A < B ∧ -150 ≤ A ∧ A < 150 ∧ B < 300 ∧ 1 ≤ N ∧ N ≤ 20 := by omega
  obtain ⟨hAB, a0, a1, b1, k1, k2⟩ := hAB
  clear eA eB eN c0 c1 m0 m1 e0 e1
  rcases HR with ⟨rfl, _, _, HS⟩ | ⟨rfl, rfl, rfl, HN⟩
  · have HS' := Lib.hid HS
    clear HS
    go_wp2_with fail
    go_loop [16, 17, 18, 19] (fun x y z i => ∃ (lw hg an : Bool) (j : Int), x = .bool lw ∧ y = .bool hg ∧ z = .bool an ∧ i = .int .i64 j ∧ (A ≤ j ∧ j ≤ B) ∧ Mark lw A j N Q lo ∧ Mark hg A j N Q hi ∧ Some an A j N Q) (fun _ _ _ i => (B - intOf i).toNat)
    case atStart => exact ⟨false, false, false, A, rfl, rfl, rfl, rfl, ⟨by omega, by omega⟩, mark_start _ _ _ _, mark_start _ _ _ _, some_start _ _ _⟩
    case round =>
      obtain ⟨lw, hg, an, j, rfl, rfl, rfl, rfl, ⟨j0, j1⟩, HL, HH, HA⟩ := hrel
      have HL' := Lib.hid HL
      have HH' := Lib.hid HH
      have HA' := Lib.hid HA
      clear HL HH HA
      by_cases hlt : j < B
      · rcases hk : idxO j N Q with _ | k
        · have hv := Lib.hid (idx_nval hk)
          have hk' := Lib.hid hk
          clear hk
          go_wp2_with fail
          refine (index_is _ (by omega) (by omega) hv.out.1 hv.out.2).mono ?_; rintro e w1 ⟨rfl, rfl⟩
          go_wp2_with fail
          go_round
          case rel => exact ⟨lw, hg, an, j + 1, rfl, rfl, rfl, by go_num, ⟨by omega, by omega⟩, mark_skip HL'.out hk'.out, mark_skip HH'.out hk'.out, some_skip HA'.out hk'.out⟩
          case measure => simp [intOf]; omega
        · have hv := Lib.hid (idx_val hk)
          have hk' := Lib.hid hk
          obtain ⟨z0, z1⟩ := HS'.out.2.2 j k j0 hlt hk
          clear hk
          rcases lw with _ | _ <;> rcases hg with _ | _
          all_goals
            go_wp2_with fail
            refine (index_is _ (by omega) (by omega) hv.out.1 hv.out.2).mono ?_; rintro e w1 ⟨rfl, rfl⟩
            go_wp2_with fail
            all_goals
              go_round
              case rel =>
                refine ⟨_, _, _, j + 1, rfl, rfl, rfl, by go_num, ⟨by omega, by omega⟩, ?_, ?_, some_set⟩ <;>
                  first
                    | exact mark_set
                    | exact mark_step2 HL'.out hk'.out (fun h => by first | (cases h; done) | exact ⟨rfl, by omega⟩ | exact ⟨rfl, by simpa using h⟩ | exact ⟨rfl, by intro e; subst e; simp_all⟩)
                    | exact mark_step2 HH'.out hk'.out (fun h => by first | (cases h; done) | exact ⟨rfl, by omega⟩ | exact ⟨rfl, by simpa using h⟩ | exact ⟨rfl, by intro e; subst e; simp_all⟩)
              case measure => simp [intOf]; omega
      · obtain rfl : j = B := by omega
        obtain rfl := mark_end HL'.out HS'.out.1
        obtain rfl := mark_end HH'.out HS'.out.2.1
        obtain rfl := some_end HA'.out HS'.out.1
        go_wp2_with fail
        refine (sane_any _).mono ?_; rintro e w1 ⟨rfl, hb⟩
        go_wp2_with fail
        go_ret
        exact ⟨rfl, hb⟩
  · have HN' : ∀ j, A ≤ j → j < B → idxO j N Q = none := by
      rcases HN with h | h
      · exact (h ⟨by unfold InC; omega, by unfold InC; omega⟩).elim
      · exact h
    have HN2 := Lib.hid HN'
    clear HN HN'
    go_wp2_with fail
    go_loop [16, 17, 18, 19] (fun x y z i => ∃ (j : Int), x = .bool false ∧ y = .bool false ∧ z = .bool false ∧ i = .int .i64 j ∧ (A ≤ j ∧ j ≤ B)) (fun _ _ _ i => (B - intOf i).toNat)
    case atStart => exact ⟨A, rfl, rfl, rfl, rfl, ⟨by omega, by omega⟩⟩
    case round =>
      obtain ⟨j, rfl, rfl, rfl, rfl, ⟨j0, j1⟩⟩ := hrel
      by_cases hlt : j < B
      · have hv := Lib.hid (idx_nval (HN2.out j j0 hlt))
        go_wp2_with fail
        refine (index_is _ (by omega) (by omega) hv.out.1 hv.out.2).mono ?_; rintro e w1 ⟨rfl, rfl⟩
        go_wp2_with fail
        go_round
        case rel => exact ⟨j + 1, rfl, rfl, rfl, by go_num, ⟨by omega, by omega⟩⟩
        case measure => simp [intOf]; omega
      · obtain rfl : j = B := by omega
        go_wp2_with fail
        refine (sane_any _).mono ?_; rintro e w1 ⟨rfl, hb⟩
        go_wp2_with fail
        go_ret
        exact ⟨rfl, hb⟩
namespace borderSpan
theorem own : ownKnob Try.prog.godebug = none := by kernel_rfl
theorem laid : laidOutB Try.prog = true := by kernel_rfl
theorem params_ok : ∀ t ∈ Try.f7.params.toList, Try.prog.readableRec t = true ∧ t < Try.prog.types.size := by
  rw [Try.params7]
  intro t ht
  simp at ht
  subst ht
  exact ⟨by kernel_rfl, of_decide_eq_true (by kernel_rfl)⟩
set_option maxRecDepth 100000 in
theorem lifted (os : Os) (started : os.Started) (H : Type) (enc : TypeId × Value → H) :
    ReturnsInHanded {} Try.checked os 7 .any (Rows.borderSpanSpec.pre6 enc Try.prog Try.f7 Rows.borderSpanRow.domain false) (Rows.borderSpanSpec.post enc Try.prog Try.f7 false true false false) := by
  refine returnsInHanded_of_change (C := Try.checked) own started (by kernel_rfl) Try.func7
    (ChangeSpec.witness6 (enc := enc) (C := Try.checked) false ⟨#[], #[.int .i64 0, .int .i64 0, .int .i64 0, .int .i64 0], []⟩ 8 (by kernel_rfl) (by kernel_rfl) (by kernel_rfl) (by kernel_rfl)) ?_
  intro W base args ds gs before hval0 hW hcnd _
  have hval : ∀ (j : Nat) t v, Try.f7.params[j]? = some t → args[j]? = some v → Value.okWide Try.prog W .any base t v := hval0
  have hW' := hW
  obtain ⟨p, q, hA0, hV, rfl, hfz, hnd⟩ := hW
  have hA : DataW.TrodAll enc Try.prog W 0 (fun _ => true) true Try.f7.params.toList args.toList ds p := hA0
  rw [Try.params7] at hA hval
  obtain ⟨v0, vs0, d0, ds0, p0, q0, hargs, rfl, rfl, h0, r0⟩ := trodAll_cons hA
  obtain ⟨v1, vs1, d1, ds1, p1, q1, rfl, rfl, rfl, h1, r1⟩ := trodAll_cons r0
  obtain ⟨v2, vs2, d2, ds2, p2, q2, rfl, rfl, rfl, h2, r2⟩ := trodAll_cons r1
  obtain ⟨v3, vs3, d3, ds3, p3, q3, rfl, rfl, rfl, h3, r3⟩ := trodAll_cons r2
  obtain ⟨rfl, rfl, rfl⟩ := trodAll_nil r3
  obtain rfl : args = #[v0, v1, v2, v3] := by cases args; simp_all
  obtain ⟨rfl, rfl⟩ := trodVars_none hV
  obtain ⟨i0, rfl, rfl, rfl, w0⟩ := open_int Try.underlying3 (hval 0 3 v0 rfl rfl) h0
  obtain ⟨i1, rfl, rfl, rfl, w1⟩ := open_int Try.underlying3 (hval 1 3 v1 rfl rfl) h1
  obtain ⟨i2, rfl, rfl, rfl, w2⟩ := open_int Try.underlying3 (hval 2 3 v2 rfl rfl) h2
  obtain ⟨i3, rfl, rfl, rfl, w3⟩ := open_int Try.underlying3 (hval 3 3 v3 rfl rfl) h3
  clear hA0 hval0
  have fin : Calls Try.prog 7 #[.int .i64 i0, .int .i64 i1, .int .i64 i2, .int .i64 i3] W (TestPost true W) := span_walk i0 i1 i2 i3 W (wf_bd w0).1 (wf_bd w0).2 (wf_bd w1).1 (wf_bd w1).2 (wf_bd w2).1 (wf_bd w2).2 (wf_bd w3).1 (wf_bd w3).2
  refine fin.mono fun e W' ⟨he, hb⟩ => ?_
  subst he
  exact ⟨_, rfl, law_post laid rfl Try.underlying4 params_ok rfl hW' rfl hb⟩

theorem over : Rows.borderSpanRow.holds Try.pinned (OpenSpec.ofChange Rows.borderSpanSpec) :=
  OpenClaim.holds_of_wide 7 Try.f7 rfl rfl rfl rfl rfl rfl rfl ⟨rfl, rfl, rfl, rfl, rfl⟩ rfl rfl rfl rfl rfl (by kernel_rfl) Try.func7 (by kernel_rfl)
    (of_decide_eq_true (by kernel_rfl)) (by unfold Func.isWrapper; first | (rw [if_pos (by decide +kernel)]; kernel_rfl) | (rw [if_neg (by decide +kernel)]; exact ⟨rfl, rfl⟩))
    (fun os started H enc _ => lifted os started H enc)

/-- the statement -/
theorem proved : Rows.BorderSpanSaid := over
#print axioms proved
end borderSpan
end Go.Proofs.Ytegbepkegffhaaa
