/- The program's table of constants, as the row lists it: what the walks ask; a world that has it. -/
import Derived.Test.YtipaicfmodgcoaaDoorShaLaws
import Derived.Test.YtipaicfmodgcoaaDoorCards
import Derived.Test.YtipaicfmodgcoaaDoorTie
import Derived.Deep.DeepHandedRow
import Derived.Deep.DeepWitnessRowRef
import Derived.ProofKit
import Derived.OpenShut
import Derived.ShutString
import Derived.SizedLaws
namespace Go.Proofs.YtipaicfmodgcoaaDoor
open Go.ChangeShapes Go.WideShapes Go.ChangeAt Go.RowKit Go.Lib

theorem ownK : ownKnob Tryd.prog.godebug = none := by kernel_rfl
theorem gT : Tryd.prog.globalNamed "engross/sha.constants" = some 0 := by kernel_rfl
theorem gTType : (Tryd.prog.globals[0]?).map (·.type) = some 34 := by kernel_rfl
theorem cells39 : Tryd.prog.cellsOf 33 = 1 := by kernel_rfl
theorem cells40 : Tryd.prog.cellsOf 34 = 64 := by kernel_rfl
def kInts : List Int := kLit.map Int.ofNat
theorem laid_tab {H : Type} : (Rows.laid_engross_sha_constants : DataW H) = tabData .u32 kInts := rfl
theorem held_of_laid {W : World} (hL : laidMet Tryd.prog [("engross/sha.constants", Rows.laid_engross_sha_constants)] W) : KHeld W := by
  rw [laid_tab] at hL
  have htab : TabIs Tryd.prog W "engross/sha.constants" .u32 kInts := tabIs_of_head gT gTType Tryd.underlying34 Tryd.underlying33 cells39 cells40 hL
  intro i hi
  rw [htab.cell gT i (by simp [kInts, kLit_len]; exact hi), kw_toNat i hi]
  have h2 : i < kLit.length := by rw [kLit_len]; exact hi
  simp [kInts, List.getD, h2]

noncomputable def laidWorld (os : Os) : World :=
  let w0 := World.holding Tryd.prog os ⟨#[], #[], []⟩
  let put (h : Array Obj) (g : Nat) (cs : Array Value) : Array Obj := h.modify g fun
    | .cells _ t frozen => .cells cs t frozen
    | o => o
  { w0 with heap := put w0.heap 0 (kInts.map fun z => Value.int .u32 z).toArray }
theorem laid_met (os : Os) (args : Array Value) : laidMet Tryd.prog [("engross/sha.constants", Rows.laid_engross_sha_constants)] ((laidWorld os).forCall (fun _ _ => 0) ⟨#[], args, []⟩).memory :=
  laidMet_of_run' 8 (by kernel_rfl) (by kernel_rfl)
end Go.Proofs.YtipaicfmodgcoaaDoor
