/- The library's tables, as the row lists them: what the walks ask; a world that has them. -/
import Derived.Test.YtgdfnngfifjdmaaDoorSfLaws
import Derived.Test.YtgdfnngfifjdmaaDoorCards
import Derived.Test.YtgdfnngfifjdmaaDoorTie
import Derived.Deep.DeepHandedRow
import Derived.Deep.DeepWitnessRowRef
import Derived.ProofKit
import Derived.OpenShut
import Derived.ShutString
import Derived.SizedLaws
import Derived.Lib.LaidTab
import Derived.Stop.LaidErr
namespace Go.Proofs.YtgdfnngfifjdmaaDoor
open Go.ChangeShapes Go.WideShapes Go.ChangeAt Go.RowKit Go.Lib

theorem ownK : ownKnob Tryd.prog.godebug = none := by kernel_rfl
theorem gPowType : (Tryd.prog.globals[0]?).map (·.type) = some 50 := by kernel_rfl
theorem cells42 : Tryd.prog.cellsOf 42 = 1 := by kernel_rfl
theorem cells50 : Tryd.prog.cellsOf 50 = 20 := by kernel_rfl
theorem laid_pow {H : Type} : (Rows.laid_internal_strconv_uint64pow10 : DataW H) = tabData .u64 pow10Tab := rfl
theorem held_of_laid {W : World} (hL : laidMet Tryd.prog [("math/bits.deBruijn32tab", Rows.laid_math_bits_deBruijn32tab), ("math/bits.deBruijn64tab", Rows.laid_math_bits_deBruijn64tab), ("internal/strconv.uint64pow10", Rows.laid_internal_strconv_uint64pow10)] W) : PowAt W := by
  have h3 := hL.tail.tail
  rw [laid_pow] at h3
  exact tabIs_of_head gPow gPowType Tryd.underlying50 Tryd.underlying42 cells42 cells50 h3

def litsOf : DataW Unit → List Value
  | .agg ps => ps.map fun
    | .lit (.int q z) => .int q z
    | _ => undef
  | _ => []
noncomputable def laidWorld (os : Os) : World :=
  let w0 := World.holding Tryd.prog os ⟨#[], #[], []⟩
  let put (h : Array Obj) (g : Nat) (cs : Array Value) : Array Obj := h.modify g fun
    | .cells _ t frozen => .cells cs t frozen
    | o => o
  { w0 with heap := put (put (put w0.heap 0 (litsOf Rows.laid_internal_strconv_uint64pow10).toArray) 1 (litsOf Rows.laid_math_bits_deBruijn32tab).toArray) 2 (litsOf Rows.laid_math_bits_deBruijn64tab).toArray }
theorem laid_met (os : Os) (args : Array Value) : laidMet Tryd.prog [("math/bits.deBruijn32tab", Rows.laid_math_bits_deBruijn32tab), ("math/bits.deBruijn64tab", Rows.laid_math_bits_deBruijn64tab), ("internal/strconv.uint64pow10", Rows.laid_internal_strconv_uint64pow10)] ((laidWorld os).forCall (fun _ _ => 0) ⟨#[], args, []⟩).memory :=
  laidMet_of_run' 8 (by kernel_rfl) (by kernel_rfl)
end Go.Proofs.YtgdfnngfifjdmaaDoor
