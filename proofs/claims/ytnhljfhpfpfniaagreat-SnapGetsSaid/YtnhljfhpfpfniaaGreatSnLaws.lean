/- The laws of books as bytes with the program's contracts in them. -/
import Derived.Test.YtnhljfhpfpfniaaGreatBkIn
import Derived.Test.YtnhljfhpfpfniaaGreatSnGets
import Derived.Test.YtnhljfhpfpfniaaGreatSnCut
import Derived.Test.YtnhljfhpfpfniaaGreatMPG
import Derived.Test.YtnhljfhpfpfniaaGreatSnR2
namespace Go.Proofs.YtnhljfhpfpfniaaGreat
open Go.RowKit

theorem laidOut : laidOutB Tryz.prog = true := by kernel_rfl
theorem sn3C (v : Slots) (b : BookT) (more : ByteArray) (w : World) (hK : True) (hb : BookIn w v b) (hw : BookWf b) : Calls Tryz.prog 3 #[.agg (cellsB v b), .string more] w fun e w' => e = .returned (.bool true) ∧ Below w.heap.size w w' := sn3 snapC v b more w hK hb hw
theorem sn4C (s : ByteArray) (w : World) (hK : True) : Calls Tryz.prog 4 #[.string s] w fun e w' => e = .returned (.bool true) ∧ Below w.heap.size w w' := sn4 snapC rget13S s w hK
theorem sn5C (v : Slots) (b : BookT) (n : Int) (w : World) (hK : True) (hb : BookIn w v b) (hw : BookWf b) (hn : 0 ≤ n ∧ n ≤ 65535) : Calls Tryz.prog 5 #[.agg (cellsB v b), .int .u16 n] w fun e w' => e = .returned (.bool true) ∧ Below w.heap.size w w' := by
  obtain ⟨k, rfl⟩ := Int.eq_ofNat_of_zero_le hn.1
  exact sn5 snapC v b k (by omega) w hK hb hw
end Go.Proofs.YtnhljfhpfpfniaaGreat
