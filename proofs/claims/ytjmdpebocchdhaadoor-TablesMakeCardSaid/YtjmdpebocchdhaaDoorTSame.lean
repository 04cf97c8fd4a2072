/- Same of the reference's tables as a contract: whether two tables are equal. It makes nothing. -/
import Derived.Test.YtjmdpebocchdhaaDoorTPlain
import Derived.Test.YtjmdpebocchdhaaDoorPRef
namespace Go.Proofs.YtjmdpebocchdhaaDoor
open Go.ChangeShapes Go.WideShapes Go.ChangeAt Go.RowKit
set_option linter.unusedVariables false
set_option linter.unusedSimpArgs false

/-- two tables agree on their first taps -/
def AgreeT (V U : List Tv) (n : Nat) : Prop := ∀ k, k < n → (V.getD k tv0).tp = (U.getD k tv0).tp
theorem agreeT_step {V U : List Tv} {k : Nat} (h : AgreeT V U k) (e : (V.getD k tv0).tp = (U.getD k tv0).tp) : AgreeT V U (k + 1) := by
  intro j hj
  by_cases g : j = k
  · subst g; exact e
  · exact h j (by omega)
theorem tp_at {V : List Tv} {k : Nat} (hk : k < V.length) : (V.map Tv.tp)[k]? = some (V.getD k tv0).tp := by
  rw [List.getElem?_map, List.getD_eq_getElem?_getD, List.getElem?_eq_getElem hk]; rfl
theorem agreeT_eq {V U : List Tv} (hl : V.length = U.length) (h : AgreeT V U V.length) : V.map Tv.tp = U.map Tv.tp := by
  apply List.ext_getElem?
  intro k
  by_cases hk : k < V.length
  · rw [tp_at hk, tp_at (by omega), h k hk]
  · rw [List.getElem?_eq_none (by simp; omega), List.getElem?_eq_none (by simp; omega)]
theorem sameT_t {V U : List Tv} (hl : V.length = U.length) (h : AgreeT V U V.length) : true = decide (V.map Tv.tp = U.map Tv.tp) := by simp [agreeT_eq hl h]
theorem sameT_len {V U : List Tv} (hl : ¬ (V.length : Int) = U.length) : false = decide (V.map Tv.tp = U.map Tv.tp) := by
  have : ¬ V.map Tv.tp = U.map Tv.tp := fun e => hl (by have := congrArg List.length e; simp at this; rw [this])
  simp [this]
theorem sameT_ne {V U : List Tv} {k : Nat} (hk : k < V.length) (hk2 : k < U.length) (h : ¬ (V.getD k tv0).tp = (U.getD k tv0).tp) : false = decide (V.map Tv.tp = U.map Tv.tp) := by
  have : ¬ V.map Tv.tp = U.map Tv.tp := fun e => h (by
    have h1 := tp_at hk
    rw [e, tp_at hk2] at h1
    exact (Option.some.inj h1).symm)
  simp [this]
/-- two lists agree on their first numbers -/
def AgreeL (L K : List Int) (n : Nat) : Prop := ∀ k, k < n → L.getD k 0 = K.getD k 0
theorem agreeL_step {L K : List Int} {k : Nat} (h : AgreeL L K k) (e : L.getD k 0 = K.getD k 0) : AgreeL L K (k + 1) := by
  intro j hj
  by_cases g : j = k
  · subst g; exact e
  · exact h j (by omega)
theorem agreeL_eq {L K : List Int} (hl : L.length = K.length) (h : AgreeL L K L.length) : L = K := by
  apply List.ext_getElem hl
  intro k h1 h2
  have := h k h1
  simpa [List.getD_eq_getElem?_getD, h1, h2] using this
theorem drewN_two (w : World) (m n : Nat) : ∃ d, (w.drewN m).drewN n = w.drewN d := ⟨m + n, by simp [World.drewN, Nat.add_assoc]⟩
set_option maxRecDepth 100000 in
set_option maxHeartbeats 4000000 in
theorem rtsame_any (V U : List Tv) (a b : Option Addr) (cap cap' : Nat) (w : World) (ha : TapsIs w a V) (hb : TapsIs w b U) (hl : V.length ≤ 9223372036854775807) (hi : ∀ k, k < V.length → (V.getD k tv0).L.length ≤ 9223372036854775807) :
    Calls Tryd.prog 21 #[.slice a V.length cap, .slice b U.length cap'] w (TestPost (decide (V.map Tv.tp = U.map Tv.tp)) w) := by
  by_cases hlen : (V.length : Int) = U.length
  · have ha' := Lib.hid ha
    have hb' := Lib.hid hb
    have hi' := Lib.hid hi
    obtain ⟨n, en⟩ : ∃ n, V.length = n := ⟨_, rfl⟩
    have EN := Lib.hid en
    have EU := Lib.hid (show U.length = n by omega)
    rw [en] at hl ⊢
    rw [EU.out]
    clear ha hb hi hlen en
    have hB := Lib.hid (bref w)
    go_enter Tryd.func21, Tryd.ntmps21
    go_wp2_with fail
    go_loopw [5] (fun i wr => ∃ k : Nat, k ≤ n ∧ i = .int .i64 k ∧ Hid (AgreeT V U k) ∧ ∃ d, wr = w.drewN d) (fun i _ => n - (intOf i).toNat)
    case atStart => exact ⟨0, by omega, rfl, Lib.hid (fun k hk => by omega), 0, rfl⟩
    case round =>
      obtain ⟨k, hk0, rfl, hP, nd, rfl⟩ := hrel
      by_cases hlt : k < n
      · have hkV : k < V.length := by rw [EN.out]; exact hlt
        have hkU : k < U.length := by rw [EU.out]; exact hlt
        obtain ⟨p, po, rfl, c1, c2, s1⟩ := ha'.out k hkV
        obtain ⟨q, qo, rfl, d1, d2, s2⟩ := hb'.out k hkU
        have hil := hi'.out k hkV
        have hkI : (k : Int) < n := by omega
        obtain ⟨t, et⟩ : ∃ t, V.getD k tv0 = t := ⟨_, rfl⟩
        obtain ⟨u, eu⟩ : ∃ u, U.getD k tv0 = u := ⟨_, rfl⟩
        rw [et] at c1 c2 s1 hil
        rw [eu] at d1 d2 s2
        obtain ⟨x, ta, tc, L⟩ := t
        obtain ⟨y, ua, uc, K⟩ := u
        dsimp only [Tv.val] at c1 c2 s1 d1 d2 s2 hil
        have S1 := Lib.hid s1
        have S2 := Lib.hid s2
        have et' := Lib.hid et
        have eu' := Lib.hid eu
        clear et eu s1 s2
        obtain ⟨l1, el1⟩ : ∃ l, L.length = l := ⟨_, rfl⟩
        obtain ⟨l2, el2⟩ : ∃ l, K.length = l := ⟨_, rfl⟩
        rw [el1] at c2 hil
        rw [el2] at d2
        have EL1 := Lib.hid el1
        have EL2 := Lib.hid el2
        clear el1 el2
        by_cases hx : x = y
        · by_cases hll : (l1 : Int) = l2
          · obtain rfl : l1 = l2 := by omega
            subst hx
            go_wp2_with fail
            go_quiet (fail)
            go_wp2_with fail
            go_loopw [6] (fun i wr => ∃ j : Nat, j ≤ l1 ∧ i = .int .i64 j ∧ Hid (AgreeL L K j) ∧ ∃ d, wr = w.drewN d) (fun i _ => l1 - (intOf i).toNat)
            case atStart => exact ⟨0, by omega, rfl, Lib.hid (fun k hk => by omega), drewN_two _ _ _⟩
            case round =>
              obtain ⟨j, hj0, rfl, hQ, nd2, rfl⟩ := hrel
              by_cases hltj : j < l1
              · obtain ⟨p2, po2, rfl, hc1⟩ := S1.out j (by rw [EL1.out]; exact hltj)
                obtain ⟨q2, qo2, rfl, hc2⟩ := S2.out j (by rw [EL2.out]; exact hltj)
                have hjI : (j : Int) < l1 := by omega
                obtain ⟨v, ev⟩ : ∃ v, L.getD j 0 = v := ⟨_, rfl⟩
                obtain ⟨z, ez⟩ : ∃ z, K.getD j 0 = z := ⟨_, rfl⟩
                rw [ev] at hc1
                rw [ez] at hc2
                have ev' := Lib.hid ev
                have ez' := Lib.hid ez
                clear ev ez
                by_cases v0 : v = z
                · have hS := Lib.hid (agreeL_step hQ.out (by rw [ev'.out, ez'.out]; exact v0))
                  subst v0
                  go_wp2_with fail
                  go_quiet (fail)
                  go_wp2_with fail
                  go_roundw
                  case rel => exact ⟨j + 1, by omega, by go_num, hS, _, rfl⟩
                  case measure => simp [intOf]; omega
                · have hN := Lib.hid (sameT_ne (V := V) (U := U) (k := k) hkV hkU (by
                    rw [et'.out, eu'.out]
                    intro e
                    have e2 : L = K := congrArg Tp.L e
                    exact v0 (by rw [← ev'.out, ← ez'.out, e2])))
                  go_wp2_with fail
                  go_quiet (fail)
                  go_wp2_with fail
                  go_ret
                  exact ⟨ret_bool hN.out, bdrewN (bdrewN hB.out _) _⟩
              · obtain rfl : j = l1 := by omega
                have hS := Lib.hid (agreeT_step hP.out (by
                  rw [et'.out, eu'.out]
                  have : L = K := agreeL_eq (by rw [EL1.out, EL2.out]) (by rw [EL1.out]; exact hQ.out)
                  rw [this]; rfl))
                go_wp2_with fail
                go_roundw
                case rel => exact ⟨k + 1, by omega, by go_num, hS, _, rfl⟩
                case measure => simp [intOf]; omega
          · have hN := Lib.hid (sameT_ne (V := V) (U := U) (k := k) hkV hkU (by
              rw [et'.out, eu'.out]
              intro e
              have e2 : L = K := congrArg Tp.L e
              exact hll (by rw [← EL1.out, ← EL2.out, e2])))
            have hll2 : ((l1 : Int) == l2) = false := by simpa using hll
            subst hx
            go_wp2_with fail
            go_quiet (fail)
            go_wp2_with fail
            go_ret
            exact ⟨ret_bool hN.out, bdrewN (bdrewN hB.out _) _⟩
        · have hN := Lib.hid (sameT_ne (V := V) (U := U) (k := k) hkV hkU (by
            rw [et'.out, eu'.out]
            intro e
            exact hx (congrArg Tp.f e)))
          have hx2 : (x == y) = false := by simpa using hx
          go_wp2_with fail
          go_quiet (fail)
          go_wp2_with fail
          go_ret
          exact ⟨ret_bool hN.out, bdrewN (bdrewN hB.out _) _⟩
      · obtain rfl : k = n := by omega
        have hN := Lib.hid (sameT_t (V := V) (U := U) (by rw [EN.out, EU.out]) (by rw [EN.out]; exact hP.out))
        go_wp2_with fail
        go_ret
        exact ⟨ret_bool hN.out, bdrewN hB.out _⟩
  · have hN := Lib.hid (sameT_len hlen)
    clear ha hb
    go_enter Tryd.func21, Tryd.ntmps21
    go_wp2_with fail
    go_ret
    exact ⟨ret_bool hN.out, bref _⟩
end Go.Proofs.YtjmdpebocchdhaaDoor
