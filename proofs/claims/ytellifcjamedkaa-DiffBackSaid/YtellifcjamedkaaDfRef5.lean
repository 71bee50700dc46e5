/- What values of a change may be: the contract. -/
import Derived.Test.YtellifcjamedkaaDfRef4
namespace Go.Proofs.Ytellifcjamedkaa
open Go.RowKit Base Base2

end Go.Proofs.Ytellifcjamedkaa
