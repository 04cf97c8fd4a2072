/- A list of taps that came in; a list of lists of numbers of 64 bits that came in. -/
import Derived.Test.YtjmdpebocchdhaaDoorTQuant
import Derived.Test.YtjmdpebocchdhaaDoorList
import Derived.Test.YtjmdpebocchdhaaDoorFOpen
import Derived.Deep.SlicePairs
import Derived.Deep.Matrix
namespace Go.Proofs.YtjmdpebocchdhaaDoor
open Go.ChangeShapes Go.WideShapes Go.ChangeAt Go.RowKit
set_option linter.unusedVariables false
set_option linter.unusedSimpArgs false

instance : Inhabited Tv := ⟨tv0⟩
instance : Inhabited Uv := ⟨uv0⟩
theorem cellsTap : Tryd.prog.cellsOf 31 = 2 := by kernel_rfl
theorem cellsRow : Tryd.prog.cellsOf 22 = 1 := by kernel_rfl
theorem cellsRowU : Tryd.prog.cellsOf 42 = 1 := by kernel_rfl
theorem open_cell {H : Type} {enc : TypeId × Value → H} {W : World} {v : Value} {x : DataW H × List MemPlace} {n : Nat}
    (h : DataW.trod enc Tryd.prog W 0 (fun _ => true) true n 22 [v] = some x) : ∃ (a : Option Addr) (xs : List Int) (cap : Nat), v = .slice a xs.length cap ∧ SliceIs W a xs ∧ xs.length ≤ 9223372036854775807 := by
  have hv : ∃ a len cap, v = .slice a len cap := by
    rcases open_ints Tryd.underlying22 Tryd.underlying3 cells3 h with ⟨hcs, _⟩ | ⟨a, len, cap, zs, hcs, _⟩
    · simp at hcs; exact ⟨_, _, _, hcs⟩
    · simp at hcs; exact ⟨_, _, _, hcs⟩
  obtain ⟨a, len, cap, rfl⟩ := hv
  obtain ⟨xs, rfl, h1, _, h3⟩ := open_list (a0 := a) (len := len) (cap := cap) (d := x.1) (ps := x.2) ⟨n, by simpa [Value.cells] using h⟩
  exact ⟨a, xs, cap, rfl, h1, h3⟩
theorem open_taps {H : Type} {enc : TypeId × Value → H} {W : World} {a0 : Option Addr} {len cap : Nat} {d : DataW H} {ps : List MemPlace}
    (h : DataW.Trod enc Tryd.prog W 0 (fun _ => true) true 23 (.slice a0 len cap) d ps) : ∃ V : List Tv, len = V.length ∧ TapsIs W a0 V ∧ V.length ≤ 9223372036854775807 ∧ ∀ k, k < V.length → (V.getD k tv0).L.length ≤ 9223372036854775807 := by
  obtain ⟨fuel, hf⟩ := h
  rcases Deep.open_slice_pairs Tryd.underlying23 Tryd.underlying31 cellsTap rfl rfl (by kernel_rfl) cellsRow hf with ⟨hcs, hx⟩ | ⟨a, len', cap', m, n, V0, V1, D0, D1, P0, P1, hcs, _, hl, hm, hmm, hx, hat⟩
  · simp [Value.cells] at hcs
    obtain ⟨rfl, rfl, rfl⟩ := hcs
    exact ⟨[], rfl, fun k hk => by simp at hk, by simp, fun k hk => by simp at hk⟩
  · simp [Value.cells] at hcs
    obtain ⟨rfl, rfl, rfl⟩ := hcs
    simp only [if_true] at hmm
    have each : ∀ i, i < len → ∃ t : Tv, W.cell? (a.add (i * 2)) = some (.int .i64 t.f) ∧ W.cell? (a.add (i * 2 + 1)) = some t.val ∧ SliceIs W t.ad t.L ∧ t.L.length ≤ 9223372036854775807 := by
      intro i hi
      obtain ⟨h0, h1, h2, h3⟩ := hat i (by omega)
      obtain ⟨f, ez, _, _⟩ := DataW.trod_int Tryd.underlying3 h2
      simp only [List.cons.injEq, and_true] at ez
      obtain ⟨ad, xs, cp, ev, hs, hxl⟩ := open_cell h3
      rw [ez] at h0
      rw [ev] at h1
      exact ⟨⟨f, ad, cp, xs⟩, h0, h1, hs, hxl⟩
    obtain ⟨t, ht⟩ := Deep.choose_lt each
    have hg : ∀ k, k < len → ((List.range len).map t).getD k tv0 = t k := by
      intro k hk
      rw [List.getD_eq_getElem?_getD, List.getElem?_map, List.getElem?_range hk]; rfl
    refine ⟨(List.range len).map t, by simp, fun k hk => ?_, by simp; unfold maxLen at hm; omega, fun k hk => ?_⟩
    · have hk' : k < len := by simpa using hk
      obtain ⟨h0, h1, h2, h3⟩ := ht k hk'
      rw [hg k hk']
      obtain ⟨b, off, spot⟩ := a
      have hspot : spot = none := by simpa [Addr.add] using World.cell?_spot (ht 0 (by omega)).1
      subst hspot
      exact ⟨b, off, rfl, by rw [← add_plain]; exact h0, by rw [Nat.add_assoc, ← add_plain]; exact h1, h2⟩
    · have hk' : k < len := by simpa using hk
      rw [hg k hk']
      exact (ht k hk').2.2.2
theorem open_lists {H : Type} {enc : TypeId × Value → H} {W : World} {a0 : Option Addr} {len cap : Nat} {d : DataW H} {ps : List MemPlace}
    (h : DataW.Trod enc Tryd.prog W 0 (fun _ => true) true 41 (.slice a0 len cap) d ps) : ∃ U : List Uv, len = U.length ∧ ListsIs W a0 U ∧ FitsLists U ∧ U.length ≤ 9223372036854775807 := by
  obtain ⟨fuel, hf⟩ := h
  rcases Deep.open_int_rows Tryd.underlying41 Tryd.underlying42 Tryd.underlying53 cellsRowU cells23 hf with ⟨hcs, hx⟩ | ⟨a, len', cap', A, L, C, Z, hcs, _, hl, hm, hx, hat⟩
  · simp [Value.cells] at hcs
    obtain ⟨rfl, rfl, rfl⟩ := hcs
    exact ⟨[], rfl, fun k hk => by simp at hk, fun k hk => by simp at hk, by simp⟩
  · simp [Value.cells] at hcs
    obtain ⟨rfl, rfl, rfl⟩ := hcs
    have each : ∀ i, i < len → ∃ u : Uv, W.cell? (a.add i) = some (.slice u.ad u.L.length u.cap) ∧ SliceU W u.ad u.L ∧ FitsU u.L := by
      intro i hi
      obtain ⟨h0, h1, h2, h3, h4, h5, h6⟩ := hat i (by omega)
      have e : L i = ((Z i).take (L i)).length := by simp; omega
      have hg : ∀ k, k < ((Z i).take (L i)).length → ((Z i).take (L i)).getD k 0 = (Z i).getD k 0 := by
        intro k hk
        have : k < L i := by omega
        simp [List.getD_eq_getElem?_getD, this]
      refine ⟨⟨A i, C i, (Z i).take (L i)⟩, by rw [h0, ← e], fun k hk => ?_, fun k hk => ?_⟩
      · have hk' : k < C i := by have hk2 : k < ((Z i).take (L i)).length := hk; omega
        cases hA : A i with
        | none => have := h5 hA; omega
        | some a' =>
          have hc := (h6 a' hA).2 k hk'
          obtain ⟨b, off, spot⟩ := a'
          have hspot : spot = none := by simpa [Addr.add] using World.cell?_spot ((h6 _ hA).2 0 (by omega))
          subst hspot
          refine ⟨b, off, rfl, ?_⟩
          show W.cell? ⟨b, off + k, none⟩ = some (.int .u64 (((Z i).take (L i)).getD k 0))
          rw [hg k hk, ← add_plain]
          exact hc
      · show In64u (((Z i).take (L i)).getD k 0)
        rw [hg k hk]
        refine wfu_bd (h4 _ ?_)
        have hk2 : k < ((Z i).take (L i)).length := hk
        rw [List.getD_eq_getElem?_getD, List.getElem?_eq_getElem (by omega)]
        exact List.getElem_mem _
    obtain ⟨u, hu⟩ := Deep.choose_lt each
    have hg : ∀ k, k < len → ((List.range len).map u).getD k uv0 = u k := by
      intro k hk
      rw [List.getD_eq_getElem?_getD, List.getElem?_map, List.getElem?_range hk]; rfl
    refine ⟨(List.range len).map u, by simp, fun k hk => ?_, fun k hk => ?_, by simp; unfold maxLen at hm; omega⟩
    · have hk' : k < len := by simpa using hk
      obtain ⟨h0, h1, _⟩ := hu k hk'
      rw [hg k hk']
      obtain ⟨b, off, spot⟩ := a
      have hspot : spot = none := by simpa [Addr.add] using World.cell?_spot (hu 0 (by omega)).1
      subst hspot
      exact ⟨b, off, rfl, by rw [← add_plain]; exact h0, h1⟩
    · have hk' : k < len := by simpa using hk
      rw [hg k hk']
      exact (hu k hk').2.2
end Go.Proofs.YtjmdpebocchdhaaDoor
