/- What the shelf's laws ask of the program, together. -/
import Derived.Test.YtgdfnngfifjdmaaDoorSfItoa
import Derived.Test.YtgdfnngfifjdmaaDoorSfSortP
namespace Go.Proofs.YtgdfnngfifjdmaaDoor
open Go.RowKit Base Base2
theorem shelfC : ShelfC PowAt where
  keep := pow_keep
  seg := fun n W hK hn => seg7 n W hK hn.2
  col := fun n W hK hn => col8 n W hK hn.2
  kind := fun s W hs => kind11 s W (by unfold maxLen; omega)
  heads := heads15
end Go.Proofs.YtgdfnngfifjdmaaDoor
