/- What the laws ask of the program's rules: the contracts together. -/
import Derived.Test.YtfodnadmabnacaaDoorRuP6
import Derived.Test.YtfodnadmabnacaaDoorRuLaw4
namespace Go.Proofs.YtfodnadmabnacaaDoor
open Go.RowKit Base Base2

theorem rulesC : RulesC KAll where
  keep := k_keep
  rel := fun n W hK hn => rel8 n W hK hn
  code := fun n W hK hn => code9 n W hK hn
  name := fun n W hK hn => name10 n W hK hn
  holds := fun s W hK hs => holds11 s W hK hs
  text := fun s W hK hs => text13 s W hK hs
  may := fun a c l W hK hr hl hc ho => may16 a c l W hK hr hl hc ho
  weigh := fun a c l W hK hr hl hc ho => weigh15 a c l W hK hr hl hc ho
end Go.Proofs.YtfodnadmabnacaaDoor
