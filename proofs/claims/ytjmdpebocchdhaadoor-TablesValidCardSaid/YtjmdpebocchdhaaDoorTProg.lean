/- The package tables as contracts, in the form that the laws' walks use. -/
import Derived.Test.YtjmdpebocchdhaaDoorTWLin
import Derived.Test.YtjmdpebocchdhaaDoorTWBoxB
import Derived.Test.YtjmdpebocchdhaaDoorTWQuant
namespace Go.Proofs.YtjmdpebocchdhaaDoor
open Go.ChangeShapes Go.WideShapes Go.ChangeAt Go.RowKit
set_option linter.unusedVariables false
set_option linter.unusedSimpArgs false

theorem tbox_any (n m s : Int) (w : World) : Calls Tryd.prog 17 #[.int .i64 n, .int .i64 m, .int .i64 s] w (TabPost (boxT n m s) (boxC n m s) w) := wbox_any n m s w
theorem tlin_any (n m s : Int) (w : World) : Calls Tryd.prog 19 #[.int .i64 n, .int .i64 m, .int .i64 s] w (TabPost (linT n m s) (makeC n m s) w) := wlinear_any n m s w
theorem tvalid_any (V : List Tv) (n : Int) (a : Option Addr) (cap l : Nat) (c : Int) (w : World) (ha : TapsIs w a V) (el : V.length = l) (hl : l ≤ 9223372036854775807) (hc : validC (V.map Tv.tp) n = c) : Calls Tryd.prog 13 #[.slice a l cap, .int .i64 n] w (NumPost c w) := wvalid_any V n a cap l c w ha el hl hc
theorem tquant_any (fs : List Int) (U : List Uv) (s : Int) (a b : Option Addr) (cap cap' l l' : Nat) (w : World) (hfs : SliceIs w a fs) (hU : ListsIs w b U) (hF : FitsLists U) (el : fs.length = l) (el' : U.length = l') (hT : TabZ w) :
    Calls Tryd.prog 23 #[.slice a l cap, .slice b l' cap', .int .i64 s] w (TabPost (qtT fs (U.map Uv.L) s) (qtC fs (U.map Uv.L) s) w) := by
  subst el; subst el'; exact wquant_any fs U s a b cap cap' w hfs hU hF hT
end Go.Proofs.YtjmdpebocchdhaaDoor
