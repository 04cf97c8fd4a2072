/- The contract of the reference's New: the plane whose pixels are all 0, in a block of its own, or the zero plane. -/
import Derived.Test.YtpmajophkhihlaaPRow
import Derived.Test.YtpmajophkhihlaaPRef
namespace Go.Proofs.Ytpmajophkhihlaa
open Go.ChangeShapes Go.WideShapes Go.ChangeAt Go.RowKit
set_option linter.unusedVariables false
set_option linter.unusedSimpArgs false

/-- a plane as a value: its pixels the whole of a block -/
def pv (W H M : Int) (g n cap : Nat) : Value := .agg #[.int .i64 W, .int .i64 H, .int .i64 M, .slice (some ⟨g, 0, none⟩) n cap]
def pz : Value := .agg #[.int .i64 0, .int .i64 0, .int .i64 0, .slice none 0 0]
/-- a plane came back and true, or the zero plane and false: by the option; its pixels are the whole of a new block -/
def PlanePost (W H M : Int) (o : Option (List Int)) (w : World) (e : Ending) (w' : World) : Prop :=
  Below w.heap.size w w' ∧ match o with
    | some L => ∃ g cap, e = .returned (.tuple #[pv W H M g L.length cap, .bool true]) ∧ PixAt w.heap.size w' g cap L
    | none => e = .returned (.tuple #[pz, .bool false])
def newO (W H M : Int) : Option (List Int) := if sizeB W H M = true then some (List.replicate (W * H).toNat 0) else none
theorem rpnew_any (W H M : Int) (w : World) : Calls Try.prog 24 #[.int .i64 W, .int .i64 H, .int .i64 M] w (PlanePost W H M (newO W H M) w) := by
  rcases hz : sizeB W H M with _ | _
  · have hz' := Lib.hid hz
    have hO := Lib.hid (show newO W H M = none by simp [newO, hz])
    clear hz
    go_enter Try.func24, Try.ntmps24
    go_wp2_with fail
    refine (rpsize_is hz'.out _).mono ?_; rintro e w1 ⟨rfl, rfl⟩
    go_wp2_with fail
    go_returns
    rw [hO.out]
    exact ⟨balloc (bref _) _, rfl⟩
  · have hz' := Lib.hid hz
    obtain ⟨⟨w1, w2⟩, ⟨h1, h2⟩, hp, m1, m2⟩ := sizeB_t.1 hz
    obtain ⟨p1, p2⟩ := prod_bd w1 w2 h1 h2
    obtain ⟨n, eP⟩ : ∃ n : Nat, W * H = n := ⟨(W * H).toNat, by omega⟩
    have hO := Lib.hid (show newO W H M = some (List.replicate n 0) by simp [newO, hz, eP])
    rw [eP] at hp p1 p2
    obtain ⟨A, hA, hmk⟩ := run_zeros n (by omega)
    have hA' := Lib.hid hA
    clear hz hA
    go_enter Try.func24, Try.ntmps24
    go_wp2_with fail
    refine (rpsize_is hz'.out _).mono ?_; rintro e w1 ⟨rfl, rfl⟩
    go_wp2_with fail
    go_returns
    rw [hO.out]
    refine ⟨by go_grown, w.heap.size + 1, n, by simp [pv], ?_⟩
    have hr := row_new (w.alloc (.cells #[.int .i64 W, .int .i64 H, .int .i64 M, .slice (some ⟨w.heap.size + 1, 0, none⟩) n n] 26)) (List.replicate n 0)
    rw [← hA'.out] at hr
    have := RowIs.pix (base := w.heap.size) hr (by simp) (by simp [maxLen]; omega)
    simpa using this
end Go.Proofs.Ytpmajophkhihlaa
