/- A door seat's kit: the table math/bits.deBruijn64tab out of the row's condition; the tape in later worlds. -/
import Derived.Test.YtjmdpebocchdhaaDoorEBits
import Derived.Test.YtjmdpebocchdhaaDoorLaw
import Derived.Test.YtjmdpebocchdhaaDoorWithin
import Derived.Test.YtjmdpebocchdhaaDoorTie
import Derived.Test.YtjmdpebocchdhaaDoorCards
import Derived.Lib.LaidTab
import Derived.Lay
import Derived.LaidMore
import Derived.SevenTiedAt
import Derived.Stop.Joined
namespace Go.Proofs.YtjmdpebocchdhaaDoor
open Go.ChangeShapes Go.WideShapes Go.ChangeAt Go.RowKit
set_option linter.unusedVariables false
set_option linter.unusedSimpArgs false

theorem tab_glob : Tryd.prog.globalNamed "math/bits.deBruijn64tab" = some 0 := by kernel_rfl
theorem tab_type : (Tryd.prog.globals[0]?).map (·.type) = some 73 := by kernel_rfl
theorem tab_cellsE : Tryd.prog.cellsOf 5 = 1 := by kernel_rfl
theorem tab_cellsT : Tryd.prog.cellsOf 73 = 64 := by kernel_rfl
theorem tab_data : (Rows.laid_math_bits_deBruijn64tab : DataW Unit) = Lib.tabData .u8 tabZ := by kernel_rfl
/-- from the row's condition to the table -/
theorem tab_laid {W : World} (h : laidMetH Tryd.prog [("math/bits.deBruijn64tab", Rows.laid_math_bits_deBruijn64tab)] W) : TabZ W := by
  rw [MakeChecks.laidMetH_plain _ _ _ (by kernel_rfl), tab_data] at h
  have hT := Lib.tabIs_of_head tab_glob tab_type Tryd.underlying73 Tryd.underlying5 tab_cellsE tab_cellsT h
  exact fun i hi => hT.cell tab_glob i (by rw [tab_len]; exact hi)
theorem tape_tab {W w' : World} {p : Nat} {a : Option Addr} {cap : Nat} {xs : List Int} (hT : TabZ W) (h : TapeSome W w' p a cap xs) : TabZ w' := hT.below h.choose_spec.below
theorem tape_more {W w w' : World} {p : Nat} {a : Option Addr} {cap : Nat} {xs : List Int} (h : TapeSome W w p a cap xs) (hb : Below w.heap.size w w') : TapeSome W w' p a cap xs := ⟨h.choose, h.choose_spec.more hb⟩
theorem tape_below {W w' : World} {p : Nat} {a : Option Addr} {cap : Nat} {xs : List Int} (h : TapeSome W w' p a cap xs) : Below W.heap.size W w' := h.choose_spec.below
end Go.Proofs.YtjmdpebocchdhaaDoor
