/- Every type of the program lies laid out: for the frames of the laws. -/

import Derived.Test.YtellifcjamedkaaDpTells
namespace Go.Proofs.Ytellifcjamedkaa
open Go.RowKit
theorem laidOut : laidOutB Try.prog = true := by kernel_rfl
end Go.Proofs.Ytellifcjamedkaa
