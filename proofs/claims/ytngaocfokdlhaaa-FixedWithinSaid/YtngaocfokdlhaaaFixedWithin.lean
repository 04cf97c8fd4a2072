/- For every list of numbers the statement FixedWithin returns true: weighted sums of numbers from a range are within the bounds, which are attained. No condition on the list. -/
import Derived.Test.YtngaocfokdlhaaaHKit
import Derived.Test.YtngaocfokdlhaaaWeights
import Derived.Lib.MinMax
import Derived.Deep.DeepMust
import Derived.Deep.RegionHeld3
namespace Go.Proofs.Ytngaocfokdlhaaa
open Go.ChangeShapes Go.WideShapes Go.ChangeAt Go.RowKit
set_option linter.unusedVariables false
set_option linter.unusedSimpArgs false

theorem own_some {base : Nat} {w : World} {v : Value} {L : List Int} (h : OwnL base w v L) (hl : 1 ≤ L.length) : ∃ g cap, v = .slice (some ⟨g, 0, none⟩) L.length cap ∧ PixAt base w g cap L := by
  rcases h.2 with ⟨rfl, hn⟩ | ⟨g, cap, cur, rfl, _⟩
  · omega
  · exact ⟨g, cap, rfl, h⟩
theorem prod_le {v x y : Int} (h : x ≤ y) (h0 : 0 ≤ v) : v * x ≤ v * y := Int.mul_le_mul_of_nonneg_left h h0
theorem prod_ge {v x y : Int} (h : x ≤ y) (h0 : v ≤ 0) : v * y ≤ v * x := Int.mul_le_mul_of_nonpos_left h0 h
/-- a product lies between the least and the greatest one -/
theorem prod_in {v lo hi x : Int} (h0 : lo ≤ x) (h1 : x ≤ hi) : lowT lo hi v ≤ v * x ∧ v * x ≤ highT lo hi v := by
  unfold lowT highT
  by_cases h : 0 ≤ v
  · have a := prod_le h0 h
    have b := prod_le h1 h
    omega
  · have a := prod_ge h0 (show v ≤ 0 by omega)
    have b := prod_ge h1 (show v ≤ 0 by omega)
    omega
theorem prod_small {v x : Int} (hv : -20 ≤ v ∧ v ≤ 20) (hx : -450 ≤ x ∧ x ≤ 450) : -9000 ≤ v * x ∧ v * x ≤ 9000 := by
  by_cases h : 0 ≤ v
  · have a := prod_le (v := v) (x := -450) (y := x) (by omega) h
    have b := prod_le (v := v) (x := x) (y := 450) (by omega) h
    omega
  · have a := prod_ge (v := v) (x := -450) (y := x) (by omega) (by omega)
    have b := prod_ge (v := v) (x := x) (y := 450) (by omega) (by omega)
    omega
theorem sums_small {L : List Int} {lo hi : Int} (hL : Small L) (h0 : -450 ≤ lo) (h1 : lo ≤ hi) (h2 : hi ≤ 450) : ∀ k, k ≤ L.length → (-(9000 * (k : Int)) ≤ ((L.take k).map (lowT lo hi)).sum ∧ ((L.take k).map (lowT lo hi)).sum ≤ 9000 * k) ∧ (-(9000 * (k : Int)) ≤ ((L.take k).map (highT lo hi)).sum ∧ ((L.take k).map (highT lo hi)).sum ≤ 9000 * k) := by
  intro k
  induction k with
  | zero => intro _; simp
  | succ k ih =>
    intro hk
    have h := ih (by omega)
    have hv := small_at hL (k := k) (by omega)
    have a := prod_small hv (x := lo) (by omega)
    have b := prod_small hv (x := hi) (by omega)
    rw [hsum_take (f := lowT lo hi) (by omega), hsum_take (f := highT lo hi) (by omega)]
    have c : lowT lo hi (L.getD k 0) = min (L.getD k 0 * lo) (L.getD k 0 * hi) := rfl
    have d : highT lo hi (L.getD k 0) = max (L.getD k 0 * lo) (L.getD k 0 * hi) := rfl
    omega
theorem small_bounds {L : List Int} {lo hi : Int} (hL : Small L) (hl : 1 ≤ L.length ∧ L.length ≤ 9) (h0 : -450 ≤ lo) (h1 : lo ≤ hi) (h2 : hi ≤ 450) : boundsB L lo hi = true ∧ boundsA L lo hi = (L.map (lowT lo hi)).sum ∧ boundsZ L lo hi = (L.map (highT lo hi)).sum := by
  have hs := sums_small hL h0 h1 h2 L.length (Nat.le_refl _)
  rw [List.take_length] at hs
  have hall : L.all weightB = true := by
    rw [List.all_eq_true]
    intro v hv
    have := hL v hv
    exact weightB_t.2 (by omega)
  have hw : weightsC L = 0 := by
    unfold weightsC
    rw [if_neg (by omega), if_pos hall]
  have hr : rangeB L lo hi = true := by
    unfold rangeB
    rw [decide_eq_true_eq]
    exact ⟨hw, h1, by omega, by omega⟩
  have hb : boundsB L lo hi = true := by
    unfold boundsB lowN highN
    rw [decide_eq_true_eq]
    exact ⟨hr, accB_t.2 (by omega), accB_t.2 (by omega)⟩
  exact ⟨hb, (bounds_yes hb).1, (bounds_yes hb).2⟩
/-- the tape and one weight -/
abbrev WS1 (W : World) (p : Nat) (a : Option Addr) (cap : Nat) (xs : List Int) (base g c : Nat) (L : List Int) (k : Nat) (v : Int) (w' : World) : Prop := Hid (TapeSome W w' p a cap xs ∧ PixAt base w' g c L) ∧ w'.cell? ⟨g, k, none⟩ = some (.int .i64 v)
theorem ws1_call {W : World} {p : Nat} {a : Option Addr} {cap : Nat} {xs : List Int} {base g c : Nat} {L : List Int} {k : Nat} {v : Int} {w1 w2 : World} (hne : ¬ g = p) (hT : TapeSome W w2 p a cap xs) (hg : w1.grownBy w2 (some p)) (h : WS1 W p a cap xs base g c L k v w1) : WS1 W p a cap xs base g c L k v w2 := by
  have hne' : ¬ some g = some p := fun e => hne (Option.some.inj e)
  exact ⟨Lib.hid ⟨hT, h.1.out.2.grown hg hne'⟩, hg.cell h.2 hne'⟩
theorem tape_more {W w w' : World} {p : Nat} {a : Option Addr} {cap : Nat} {xs : List Int} (h : TapeSome W w p a cap xs) (hb : Below w.heap.size w w') : TapeSome W w' p a cap xs := ⟨h.choose, h.choose_spec.more hb⟩
theorem ws1_below {W : World} {p : Nat} {a : Option Addr} {cap : Nat} {xs : List Int} {base g c : Nat} {L : List Int} {k : Nat} {v : Int} {w1 w2 : World} (hb : Below w1.heap.size w1 w2) (h : WS1 W p a cap xs base g c L k v w1) : WS1 W p a cap xs base g c L k v w2 :=
  ⟨Lib.hid ⟨tape_more h.1.out.1 hb, h.1.out.2.below hb⟩, bkeep hb h.2⟩
set_option maxRecDepth 100000 in
set_option maxHeartbeats 8000000 in
theorem within_walk (xs : List Int) (a0 : Option Addr) (cap : Nat) (w : World) (hs : SliceIs w a0 xs) (hf : Fits xs) (hl : xs.length ≤ 9223372036854775807) :
    Calls Try.prog 5 #[.slice a0 xs.length cap] w (TestPost true w) := by
  have hs' := Lib.hid hs
  have hf' := Lib.hid hf
  have hl' := Lib.hid hl
  clear hs hf hl
  go_enter Try.func5, Try.ntmps5
  go_wp2_with fail
  refine (new_any a0 cap xs _ hs'.out hf'.out hl'.out).mono ?_; rintro e w1 ⟨rfl, hT1⟩
  replace hT1 : Hid (TapeSome w w1 w.heap.size a0 cap xs) := Lib.hid ⟨0, hT1⟩
  go_wp2_with fail
  refine (next_some w w.heap.size a0 cap xs _ _ hT1.out (by omega) (by omega)).mono ?_; rintro e w2 ⟨n, rfl, hn, hT2, hg⟩; replace hT2 := Lib.hid hT2; clear hg hT1
  go_wp2_with fail
  refine (weights_some w w.heap.size a0 cap xs _ _ hT2.out hT2.out.choose_spec.below.size (by omega)).mono ?_; rintro e w3 ⟨v, L, rfl, hL, hT3, hg, hO, hS⟩
  obtain ⟨g, c, rfl, hP⟩ := own_some hO (by omega)
  have hgp : ¬ g = w.heap.size := by have := hT2.out.choose_spec.lt; have := hP.lt; omega
  have hll : 1 ≤ L.length ∧ L.length ≤ 9 := by omega
  replace hT3 := Lib.hid hT3
  have HP := Lib.hid hP
  have HS := Lib.hid hS
  clear hO hP hS hg hT2 hL hn
  go_wp2_with fail
  refine (next_some w w.heap.size a0 cap xs _ _ hT3.out (by omega) (by omega)).mono ?_; rintro e w4 ⟨m1, rfl, hm1, hT4, hg⟩; replace hT4 := Lib.hid hT4
  have HP4 := Lib.hid (HP.out.grown hg (fun e => hgp (Option.some.inj e))); clear hg hT3 HP
  obtain ⟨lo, elo⟩ : ∃ lo, m1 - 150 = lo := ⟨_, rfl⟩
  have hlo : -150 ≤ lo ∧ lo ≤ 149 := by omega
  go_wp2_with fail
  refine (next_some w w.heap.size a0 cap xs _ _ hT4.out (by omega) (by omega)).mono ?_; rintro e w5 ⟨m2, rfl, hm2, hT5, hg⟩; replace hT5 := Lib.hid hT5
  have HP5 := Lib.hid (HP4.out.grown hg (fun e => hgp (Option.some.inj e))); clear hg hT4 HP4
  obtain ⟨hi, ehi⟩ : ∃ hi, lo + m2 = hi := ⟨_, rfl⟩
  have hhi : lo ≤ hi ∧ hi ≤ 449 := by omega
  obtain ⟨b1, b2, b3⟩ := small_bounds (L := L) (lo := lo) (hi := hi) HS.out hll (by omega) hhi.1 (by omega)
  obtain ⟨A, eA⟩ : ∃ A, (L.map (lowT lo hi)).sum = A := ⟨_, rfl⟩
  obtain ⟨Z, eZ⟩ : ∃ Z, (L.map (highT lo hi)).sum = Z := ⟨_, rfl⟩
  rw [eA] at b2
  rw [eZ] at b3
  have B1 := Lib.hid b1
  have B2 := Lib.hid b2
  have B3 := Lib.hid b3
  have EA := Lib.hid eA
  have EZ := Lib.hid eZ
  have hss := Lib.hid (fun k hk => sums_small (L := L) (lo := lo) (hi := hi) HS.out (by omega) hhi.1 (by omega) k hk)
  clear b1 b2 b3 eA eZ
  go_wp2_with fail
  refine (fbounds_is B2.out B3.out B1.out _ _ _ HP5.out.isS (by omega)).mono ?_; rintro e w6 ⟨rfl, hb⟩
  have hT6 := Lib.hid (tape_more hT5.out hb)
  have HP6 := Lib.hid (HP5.out.below hb)
  clear hb hT5 HP5 elo ehi hm1 hm2
  obtain ⟨base, eb⟩ : ∃ base, w2.heap.size = base := ⟨_, rfl⟩
  rw [eb] at HP6
  clear eb
  obtain ⟨ln, eln⟩ : ∃ ln, L.length = ln := ⟨_, rfl⟩
  have ELN := Lib.hid eln
  rw [eln] at hll ⊢
  clear eln
  go_wp2_with fail
  go_loopw [10, 11, 12, 13] (fun s l h i wr => ∃ (k : Nat) (S A1 Z1 : Int), k ≤ ln ∧ i = .int .i64 k ∧ s = .int .i64 S ∧ l = .int .i64 A1 ∧ h = .int .i64 Z1 ∧ (A1 ≤ S ∧ S ≤ Z1) ∧ (-81000 ≤ A1 ∧ Z1 ≤ 81000) ∧ Hid (((L.take k).map (lowT lo hi)).sum = A1 ∧ ((L.take k).map (highT lo hi)).sum = Z1) ∧ Hid (TapeSome w wr w.heap.size a0 cap xs ∧ PixAt base wr g c L)) (fun _ _ _ i _ => ln - (intOf i).toNat)
  case atStart => exact ⟨0, 0, 0, 0, by omega, rfl, rfl, rfl, rfl, by omega, by omega, Lib.hid (by simp), Lib.hid ⟨hT6.out, HP6.out⟩⟩
  case round =>
    clear hT6 HP6
    obtain ⟨k, S, A1, Z1, hk, rfl, rfl, rfl, rfl, hS1, hS2, HSM, HR⟩ := hrel
    by_cases hlt : k < ln
    · have hkI : (k : Int) < ln := by omega
      have hkL : k < L.length := by rw [ELN.out]; exact hlt
      obtain ⟨v, ev⟩ : ∃ v, L.getD k 0 = v := ⟨_, rfl⟩
      have hv := small_at HS.out hkL
      have hcell := HR.out.2.cell hkL
      rw [ev] at hcell hv
      obtain ⟨P1, eP1⟩ : ∃ P, v * lo = P := ⟨_, rfl⟩
      obtain ⟨P2, eP2⟩ : ∃ P, v * hi = P := ⟨_, rfl⟩
      have bP1 := prod_small hv (x := lo) (by omega)
      have bP2 := prod_small hv (x := hi) (by omega)
      rw [eP1] at bP1
      rw [eP2] at bP2
      obtain ⟨Q1, eQ1⟩ : ∃ Q, min P1 P2 = Q := ⟨_, rfl⟩
      obtain ⟨Q2, eQ2⟩ : ∃ Q, max P1 P2 = Q := ⟨_, rfl⟩
      have bQ1 : -9000 ≤ Q1 ∧ Q1 ≤ 9000 := by omega
      have bQ2 : -9000 ≤ Q2 ∧ Q2 ≤ 9000 := by omega
      have HN : Hid (((L.take (k + 1)).map (lowT lo hi)).sum = A1 + Q1 ∧ ((L.take (k + 1)).map (highT lo hi)).sum = Z1 + Q2) := Lib.hid (by
        rw [hsum_take (f := lowT lo hi) hkL, hsum_take (f := highT lo hi) hkL, HSM.out.1, HSM.out.2, ev]
        refine ⟨?_, ?_⟩
        · show A1 + min (v * lo) (v * hi) = _; rw [eP1, eP2, eQ1]
        · show Z1 + max (v * lo) (v * hi) = _; rw [eP1, eP2, eQ2])
      have hbn := hss.out (k + 1) (by omega)
      rw [HN.out.1, HN.out.2] at hbn
      have hbn2 : -81000 ≤ A1 + Q1 ∧ Z1 + Q2 ≤ 81000 := by omega
      have HPI := Lib.hid (fun x (h0 : lo ≤ x) (h1 : x ≤ hi) => (show (Q1 ≤ v * x ∧ v * x ≤ Q2) by
        have := prod_in (v := v) h0 h1
        rw [show lowT lo hi v = Q1 by unfold lowT; rw [eP1, eP2, eQ1], show highT lo hi v = Q2 by unfold highT; rw [eP1, eP2, eQ2]] at this
        exact this))
      have hO : WS1 w w.heap.size a0 cap xs base g c L k v wr.drew := ws1_below (bdrewN (bref _) 1) ⟨Lib.hid HR.out, hcell⟩
      obtain ⟨D, eD⟩ : ∃ D, hi - lo + 1 = D := ⟨_, rfl⟩
      have t1 : IntKind.i64.wrap (hi - lo) = hi - lo := IntWalk.i64_in _ (by omega)
      have t2 : IntKind.i64.wrap (hi - lo + 1) = D := by rw [← eD]; exact IntWalk.i64_in _ (by omega)
      have hD : 1 ≤ D ∧ D ≤ 1000 := by omega
      have ED := Lib.hid eD
      clear ev HSM hbn HR hcell eD
      go_upto_region 11 with fail
      first | go_must (go_region_held3 (fun w' => WS1 w w.heap.size a0 cap xs base g c L k v w') ((first | with_reducible exact hO | with_reducible exact ws1_call hgp hTa hga ‹_›))
        (first
          | (go_at_call 18; refine (next_some w w.heap.size a0 cap xs _ _ (‹WS1 w w.heap.size a0 cap xs base g c L k v _›).1.out.1 (by omega) (by omega)).mono ?_; rintro e wn ⟨x, rfl, hx, hTa, hga⟩; have hX := Lib.hid hx; obtain ⟨y, ey⟩ : ∃ y, lo + x = y := ⟨_, rfl⟩; have hpi := HPI.out y (by omega) (by have := ED.out; omega); have t3 : IntKind.i64.wrap (lo + x) = y := (by rw [ey]; exact IntWalk.i64_in _ (by omega)); clear ey; obtain ⟨P3, eP3⟩ : ∃ P, v * y = P := ⟨_, rfl⟩; rw [eP3] at hpi; have t4 : IntKind.i64.wrap (v * y) = P3 := (by rw [eP3]; exact IntWalk.i64_in _ (by omega)); have t5 : IntKind.i64.wrap (S + P3) = S + P3 := (IntWalk.i64_in _ (by omega)); clear eP3))) | skip
      have hO2 : WS1 w w.heap.size a0 cap xs base g c L k v wn.drew := ws1_below (bdrewN (bref _) 1) (ws1_call hgp hTa hga hO)
      have t6 : IntKind.i64.wrap (v * lo) = P1 := by rw [eP1]; exact IntWalk.i64_in _ (by omega)
      have t7 : IntKind.i64.wrap (v * hi) = P2 := by rw [eP2]; exact IntWalk.i64_in _ (by omega)
      have t8 : IntKind.i64.wrap (A1 + Q1) = A1 + Q1 := IntWalk.i64_in _ (by omega)
      have t9 : IntKind.i64.wrap (Z1 + Q2) = Z1 + Q2 := IntWalk.i64_in _ (by omega)
      have hnew : (A1 + Q1 ≤ S + P3 ∧ S + P3 ≤ Z1 + Q2) := by omega
      clear t1 t2 t3 t4 t5 hTa hga hO eP1 eP2
      go_wp2_with fail
      first | go_must (go_region_held3 (fun w' => WS1 w w.heap.size a0 cap xs base g c L k v w') ((first | with_reducible exact hO2)) (fail)) | skip
      have hO3 : WS1 w w.heap.size a0 cap xs base g c L k v wn.drew.drew := ws1_below (bdrewN (bref _) 1) hO2
      go_wp2_with fail
      first | go_must (go_region_held3 (fun w' => WS1 w w.heap.size a0 cap xs base g c L k v w') ((first | with_reducible exact hO3)) (fail)) | skip
      have HR3 := Lib.hid hO3.1.out
      go_wp2_with fail
      go_roundw
      case rel => exact ⟨k + 1, _, _, _, by omega, by go_num, rfl, rfl, rfl, hnew, hbn2, HN, HR3⟩
      case measure => simp [intOf]; omega
    · obtain rfl : k = ln := by omega
      have hA1 : A1 = A := by rw [← HSM.out.1, ← ELN.out, List.take_length, EA.out]
      have hZ1 : Z1 = Z := by rw [← HSM.out.2, ← ELN.out, List.take_length, EZ.out]
      subst hA1 hZ1
      go_wp2_with fail
      refine (sane_is _).mono ?_; rintro e w7 ⟨rfl, hb⟩
      have hfin := Lib.hid (bthen HR.out.1.choose_spec.below hb)
      clear hb
      go_wp2_with fail
      go_returns
      exact ⟨rfl, hfin.out⟩
namespace fixedWithin
theorem own : ownKnob Try.prog.godebug = none := by kernel_rfl
theorem laid : laidOutB Try.prog = true := by kernel_rfl
theorem params_ok : ∀ t ∈ Try.f5.params.toList, Try.prog.readableRec t = true ∧ t < Try.prog.types.size := by
  rw [Try.params5]
  intro t ht
  simp at ht
  subst ht
  exact ⟨by kernel_rfl, of_decide_eq_true (by kernel_rfl)⟩
set_option maxRecDepth 100000 in
theorem lifted (os : Os) (started : os.Started) (H : Type) (enc : TypeId × Value → H) :
    ReturnsInHanded {} Try.checked os 5 .any (Rows.fixedWithinSpec.pre6 enc Try.prog Try.f5 Rows.fixedWithinRow.domain false) (Rows.fixedWithinSpec.post enc Try.prog Try.f5 false true false false) := by
  refine returnsInHanded_of_change (C := Try.checked) own started (by kernel_rfl) Try.func5
    (ChangeSpec.witness6 (enc := enc) (C := Try.checked) false ⟨#[], #[.slice none 0 0], []⟩ 8 (by kernel_rfl) (by kernel_rfl) (by kernel_rfl) (by kernel_rfl)) ?_
  intro W base args ds gs before hval0 hW hcnd _
  have hval : ∀ (j : Nat) t v, Try.f5.params[j]? = some t → args[j]? = some v → Value.okWide Try.prog W .any base t v := hval0
  have hW' := hW
  obtain ⟨p, q, hA0, hV, rfl, hfz, hnd⟩ := hW
  have hA : DataW.TrodAll enc Try.prog W 0 (fun _ => true) true Try.f5.params.toList args.toList ds p := hA0
  rw [Try.params5] at hA hval
  obtain ⟨v0, vs0, d0, ds0, p0, q0, hargs, rfl, rfl, h0, r0⟩ := trodAll_cons hA
  obtain ⟨rfl, rfl, rfl⟩ := trodAll_nil r0
  obtain rfl : args = #[v0] := by cases args; simp_all
  obtain ⟨rfl, rfl⟩ := trodVars_none hV
  obtain ⟨a0, len, cap, rfl⟩ := okWide_slice Try.underlying23 (hval 0 23 v0 rfl rfl)
  obtain ⟨xs, rfl, hs, hf, hl⟩ := open_list h0
  clear hA0 hval0
  have fin : Calls Try.prog 5 #[.slice a0 xs.length cap] W (TestPost true W) := within_walk xs a0 cap W hs hf hl
  refine fin.mono fun e W' ⟨he, hb⟩ => ?_
  subst he
  exact ⟨_, rfl, law_post laid rfl Try.underlying4 params_ok rfl hW' rfl hb⟩

theorem over : Rows.fixedWithinRow.holds Try.pinned (OpenSpec.ofChange Rows.fixedWithinSpec) :=
  OpenClaim.holds_of_wide 5 Try.f5 rfl rfl rfl rfl rfl rfl rfl ⟨rfl, rfl, rfl, rfl, rfl⟩ rfl rfl rfl rfl rfl (by kernel_rfl) Try.func5 (by kernel_rfl)
    (of_decide_eq_true (by kernel_rfl)) (by unfold Func.isWrapper; first | (rw [if_pos (by decide +kernel)]; kernel_rfl) | (rw [if_neg (by decide +kernel)]; exact ⟨rfl, rfl⟩))
    (fun os started H enc _ => lifted os started H enc)

/-- the statement -/
theorem proved : Rows.FixedWithinSaid := over
#print axioms proved
end fixedWithin
end Go.Proofs.Ytngaocfokdlhaaa
