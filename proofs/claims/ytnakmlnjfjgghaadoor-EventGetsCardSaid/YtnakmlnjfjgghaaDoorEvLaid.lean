/- The program's tables of names, as the row lists them: what the walks ask; a world that has them. -/
import Derived.Test.YtnakmlnjfjgghaaDoorEvNames
import Derived.Test.YtnakmlnjfjgghaaDoorCards
import Derived.Test.YtnakmlnjfjgghaaDoorTie
import Derived.Deep.DeepHandedRow
import Derived.Deep.DeepWitnessRowRef
import Derived.ProofKit
import Derived.OpenShut
import Derived.ShutString
import Derived.SizedLaws
import Derived.Lib.LaidTab
import Derived.Stop.LaidErr
namespace Go.Proofs.YtnakmlnjfjgghaaDoor
open Go.ChangeShapes Go.WideShapes Go.ChangeAt Go.RowKit Go.Lib

theorem ownK : ownKnob Tryd.prog.godebug = none := by kernel_rfl
theorem gK : Tryd.prog.globalNamed "engross/event.kinds" = some 0 := by kernel_rfl
theorem gKType : (Tryd.prog.globals[0]?).map (·.type) = some 60 := by kernel_rfl
theorem gR : Tryd.prog.globalNamed "engross/event.reasons" = some 1 := by kernel_rfl
theorem gRType : (Tryd.prog.globals[1]?).map (·.type) = some 61 := by kernel_rfl
theorem cells9 : Tryd.prog.cellsOf 9 = 1 := by kernel_rfl

/-- A table of texts, as a row lists it. -/
def textData {H : Type} (l : List ByteArray) : DataW H := .agg (l.map fun s => .lit (.string s.data.toList))
/-- What a table of texts, the first that a row lists, has in its cells. -/
theorem texts_of_head {P : Program} {W : World} {name : String} {l : List ByteArray} {rest : List (String × DataW Unit)} {g : Nat} {t e : TypeId} {n : Nat}
    (hg : P.globalNamed name = some g) (hty : (P.globals[g]?).map (·.type) = some t) (ht : P.underlying t = some (.array n e)) (he : P.underlying e = some .string) (hce : P.cellsOf e = 1)
    (h : laidMet P ((name, textData l) :: rest) W) : ∀ i, i < l.length → W.cell? ⟨g, i, none⟩ = some (.string (l.getD i ⟨#[]⟩)) := by
  obtain ⟨_, ⟨g1, t1, cs, _, _, _, a1, a2, a3, a4, _⟩, _⟩ := h
  have eg : g = g1 := Option.some.inj (hg.symm.trans a1)
  subst eg
  have et : t = t1 := Option.some.inj (hty.symm.trans a2)
  subst et
  obtain ⟨xs, m, _, hx, _, hn, hi⟩ := DataW.trod_array ht a4
  have hm : xs.map (·.1) = l.map (fun s => (DataW.lit (.string s.data.toList) : DataW Unit)) := by
    have := congrArg (·.1) hx
    simp only [textData, DataW.agg.injEq] at this
    exact this.symm
  have hln : l.length = n := by
    have := congrArg List.length hm
    rw [List.length_map, List.length_map] at this
    omega
  intro i hil
  have hix : i < xs.length := by omega
  have h1 := hi i (by omega)
  rw [hce, Nat.mul_one, List.getElem?_eq_getElem hix] at h1
  obtain ⟨s, hs, hy, _⟩ := DataW.trod_string he h1
  have h2 := congrArg (fun k => k[i]?) hm
  simp only [List.getElem?_map, List.getElem?_eq_getElem hix, List.getElem?_eq_getElem hil, Option.map_some, Option.some.injEq] at h2
  rw [hy] at h2
  simp only [DataW.lit.injEq, Lit.string.injEq] at h2
  have hsl : s = l[i] := by
    apply ByteArray.ext
    exact Array.toList_inj.1 h2
  have h3 := congrArg (fun k => k[0]?) hs
  rw [World.var?_cell hg a3 i, ← Array.getElem?_toList]
  rw [List.getD_eq_getElem?_getD, List.getElem?_eq_getElem hil, Option.getD_some, ← hsl]
  simpa [List.getElem?_take, List.getElem?_drop] using h3

theorem laid_kinds {H : Type} : (Rows.laid_engross_event_kinds : DataW H) = textData kindsL := rfl
theorem laid_reasons {H : Type} : (Rows.laid_engross_event_reasons : DataW H) = textData reasonsL := rfl
theorem held_of_laid {W : World} (hL : laidMet Tryd.prog [("engross/event.kinds", Rows.laid_engross_event_kinds), ("engross/event.reasons", Rows.laid_engross_event_reasons)] W) : KHeld W := by
  have h2 := hL.tail
  rw [laid_kinds] at hL
  rw [laid_reasons] at h2
  exact ⟨texts_of_head gK gKType Tryd.underlying60 Tryd.underlying9 cells9 hL, texts_of_head gR gRType Tryd.underlying61 Tryd.underlying9 cells9 h2⟩

noncomputable def laidWorld (os : Os) : World :=
  let w0 := World.holding Tryd.prog os ⟨#[], #[], []⟩
  let put (h : Array Obj) (g : Nat) (cs : Array Value) : Array Obj := h.modify g fun
    | .cells _ t frozen => .cells cs t frozen
    | o => o
  { w0 with heap := put (put w0.heap 0 (kindsL.map Value.string).toArray) 1 (reasonsL.map Value.string).toArray }
theorem laid_met (os : Os) (args : Array Value) : laidMet Tryd.prog [("engross/event.kinds", Rows.laid_engross_event_kinds), ("engross/event.reasons", Rows.laid_engross_event_reasons)] ((laidWorld os).forCall (fun _ _ => 0) ⟨#[], args, []⟩).memory :=
  laidMet_of_run' 8 (by kernel_rfl) (by kernel_rfl)
end Go.Proofs.YtnakmlnjfjgghaaDoor
