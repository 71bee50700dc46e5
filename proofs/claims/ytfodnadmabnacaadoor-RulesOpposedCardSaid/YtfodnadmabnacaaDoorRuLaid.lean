/- The program's tables and the library's, as the row lists them: what the walks ask; a world that has them. -/
import Derived.Test.YtfodnadmabnacaaDoorRuTab
import Derived.Test.YtfodnadmabnacaaDoorCards
import Derived.Test.YtfodnadmabnacaaDoorTie
import Derived.Deep.DeepHandedRow
import Derived.Deep.DeepWitnessRowRef
import Derived.ProofKit
import Derived.OpenShut
import Derived.ShutString
import Derived.SizedLaws
import Derived.Lib.ItoaNum
namespace Go.Proofs.YtfodnadmabnacaaDoor
open Go.ChangeShapes Go.WideShapes Go.ChangeAt Go.RowKit Go.Lib

theorem ownK : ownKnob Tryd.prog.godebug = none := by kernel_rfl
theorem gTab : Tryd.prog.globalNamed "engross/rules.table" = some 0 := by kernel_rfl
theorem gTabType : (Tryd.prog.globals[0]?).map (·.type) = some 56 := by kernel_rfl
theorem gPow : Tryd.prog.globalNamed "internal/strconv.uint64pow10" = some 1 := by kernel_rfl
theorem gPowType : (Tryd.prog.globals[1]?).map (·.type) = some 67 := by kernel_rfl
theorem cellsU : Tryd.prog.cellsOf 60 = 1 := by kernel_rfl
theorem cellsU20 : Tryd.prog.cellsOf 67 = 20 := by kernel_rfl
theorem cellsRow : Tryd.prog.cellsOf 44 = 3 := by kernel_rfl
theorem cellsS : Tryd.prog.cellsOf 9 = 1 := by kernel_rfl
theorem cellsI : Tryd.prog.cellsOf 3 = 1 := by kernel_rfl

/-- The program's table: the document's, with a name at 0. -/
def progTab : List (ByteArray × Int × Int) := (⟨#[63]⟩, 0, 0) :: tabT.tail
theorem laid_tab {H : Type} : (Rows.laid_engross_rules_table : DataW H) = siiData progTab := rfl
theorem laid_pow {H : Type} : (Rows.laid_internal_strconv_uint64pow10 : DataW H) = tabData .u64 pow10Tab := rfl
def TabK (W : World) : Prop := ∀ (i : Nat) (r : ByteArray × Int × Int), progTab[i]? = some r → W.cell? ⟨0, i * 3, none⟩ = some (.string r.1) ∧ W.cell? ⟨0, i * 3 + 1, none⟩ = some (.int .i64 r.2.1) ∧ W.cell? ⟨0, i * 3 + 2, none⟩ = some (.int .i64 r.2.2)
def PowAt (W : World) : Prop := Lib.TabIs Tryd.prog W "internal/strconv.uint64pow10" .u64 Lib.pow10Tab
abbrev rulesLaid : List (String × DataW Unit) := [("math/bits.deBruijn32tab", Rows.laid_math_bits_deBruijn32tab), ("math/bits.deBruijn64tab", Rows.laid_math_bits_deBruijn64tab), ("internal/strconv.uint64pow10", Rows.laid_internal_strconv_uint64pow10), ("engross/rules.table", Rows.laid_engross_rules_table)]
/-- What the walks ask of memory. -/
def KAll (W : World) : Prop := TabK W ∧ PowAt W
set_option maxRecDepth 100000 in
theorem held_of_laid {W : World} (hL : laidMet Tryd.prog rulesLaid W) : KAll W := by
  have h3 := hL.tail.tail
  have h4 := h3.tail
  rw [laid_pow] at h3
  rw [laid_tab] at h4
  exact ⟨sii_of_head gTab gTabType Tryd.underlying56 Tryd.underlying44 cellsRow rfl rfl rfl Tryd.underlying9 Tryd.underlying3 Tryd.underlying3 cellsS cellsI cellsI h4, tabIs_of_head gPow gPowType Tryd.underlying67 Tryd.underlying60 cellsU cellsU20 h3⟩
theorem pow_keep (W W' : World) (h : PowAt W) (hb : Below W.heap.size W W') : PowAt W' := by
  unfold PowAt Lib.TabIs World.var? at *
  rw [gPow] at *
  rcases Nat.lt_or_ge 1 W.heap.size with h0 | h0
  · simpa [hb.block 1 h0] using h
  · have hn : W.heap[1]? = none := Array.getElem?_eq_none h0
    simp [hn] at h
theorem cell_keep {W W' : World} (hb : Below W.heap.size W W') {b off : Nat} {v : Value} (h : W.cell? ⟨b, off, none⟩ = some v) : W'.cell? ⟨b, off, none⟩ = some v :=
  (hb.cell (p := ⟨b, off, none⟩) (World.block_lt_of_cell? W _ h)).trans h
theorem k_keep (W W' : World) (h : KAll W) (hb : Below W.heap.size W W') : KAll W' :=
  ⟨fun i r hi => ⟨cell_keep hb (h.1 i r hi).1, cell_keep hb (h.1 i r hi).2.1, cell_keep hb (h.1 i r hi).2.2⟩, pow_keep W W' h.2 hb⟩

noncomputable def laidWorld (os : Os) : World := World.doorLaid Tryd.prog 600 os
theorem laid_met (os : Os) (args : Array Value) : laidMet Tryd.prog rulesLaid ((laidWorld os).forCall (fun _ _ => 0) ⟨#[], args, []⟩).memory :=
  laidMet_of_run' 8 (by kernel_rfl) (by kernel_rfl)
theorem laidOut : laidOutB Tryd.prog = true := by kernel_rfl
end Go.Proofs.YtfodnadmabnacaaDoor
