/- The program's tables of names, as the row lists them: what the walks ask; a world that has them. -/
import Derived.Test.YtnakmlnjfjgghaaDoorEvNames
import Derived.Test.YtnakmlnjfjgghaaDoorCards
import Derived.Test.YtnakmlnjfjgghaaDoorTie
import Derived.Deep.DeepHandedRow
import Derived.Deep.DeepWitnessRowRef
import Derived.ProofKit
import Derived.OpenShut
import Derived.ShutString
import Derived.SizedLaws
import Derived.Lib.LaidTab
import Derived.Stop.LaidErr
namespace Go.Proofs.YtnakmlnjfjgghaaDoor
open Go.ChangeShapes Go.WideShapes Go.ChangeAt Go.RowKit Go.Lib

theorem ownK : ownKnob Tryd.prog.godebug = none := by kernel_rfl
theorem gK : Tryd.prog.globalNamed "engross/event.kinds" = some 0 := by kernel_rfl
theorem gKType : (Tryd.prog.globals[0]?).map (·.type) = some 60 := by kernel_rfl
theorem gR : Tryd.prog.globalNamed "engross/event.reasons" = some 1 := by kernel_rfl
theorem gRType : (Tryd.prog.globals[1]?).map (·.type) = some 61 := by kernel_rfl
theorem cells9 : Tryd.prog.cellsOf 9 = 1 := by kernel_rfl
theorem cells60 : Tryd.prog.cellsOf 60 = 8 := by kernel_rfl
theorem cells61 : Tryd.prog.cellsOf 61 = 14 := by kernel_rfl

/-- A table of texts, as a row lists it. -/
def textData {H : Type} (l : List ByteArray) : DataW H := .agg (l.map fun s => .lit (.string s.data.toList))
theorem cells_of_texts {H : Type} {enc : TypeId × Value → H} {P : Program} {w : World} {base : Nat} {sp : Nat → Bool} {held : Bool} {fuel : Nat} {t e : TypeId} {n : Nat} {cs : List Value} {l : List ByteArray} {p : List MemPlace}
    (ht : P.underlying t = some (.array n e)) (he : P.underlying e = some .string) (hce : P.cellsOf e = 1) (hct : P.cellsOf t = n)
    (h : DataW.trod enc P w base sp held fuel t cs = some (textData l, p)) : cs = l.map Value.string := by
  cases fuel with
  | zero => simp [DataW.trod] at h
  | succ fuel =>
    simp only [DataW.trod, ht, hce, hct, Nat.mul_one] at h
    split at h
    · rename_i hl
      obtain ⟨xs, hm, hx⟩ := Option.map_eq_some_iff.1 h
      have hxs : xs.map (·.1) = l.map fun s => (DataW.lit (.string s.data.toList) : DataW H) := by
        have := congrArg Prod.fst hx
        simpa [textData] using this
      have hxl : xs.length = n := by simpa using mapM_length hm
      have hzl : l.length = n := by
        have := congrArg List.length hxs
        simp at this
        omega
      apply List.ext_getElem?
      intro i
      by_cases hi : i < n
      · obtain ⟨b, hb, hf⟩ := mapM_at hm i i (by simp [hi])
        obtain ⟨s, hc, rfl, _⟩ := DataW.trod_string he hf
        have h1 : cs[i]? = some (.string s) := by
          have := congrArg (·[0]?) hc
          simpa [List.getElem?_take, List.getElem?_drop] using this
        have h2 : (xs.map (·.1))[i]? = some (DataW.lit (.string s.data.toList) : DataW H) := by simp [hb]
        rw [hxs] at h2
        simp only [List.getElem?_map, Option.map_eq_some_iff, DataW.lit.injEq, Lit.string.injEq] at h2
        obtain ⟨s', hs', he'⟩ := h2
        have : s' = s := by apply ByteArray.ext; exact Array.toList_inj.1 he'
        subst this
        simp [h1, hs']
      · rw [List.getElem?_eq_none (by omega), List.getElem?_eq_none (by simp; omega)]
    · cases h
theorem texts_of_head {P : Program} {W : World} {name : String} {l : List ByteArray} {rest : List (String × DataW Unit)} {g : Nat} {t e : TypeId} {n : Nat}
    (hg : P.globalNamed name = some g) (hty : (P.globals[g]?).map (·.type) = some t) (ht : P.underlying t = some (.array n e)) (he : P.underlying e = some .string) (hce : P.cellsOf e = 1) (hct : P.cellsOf t = n)
    (h : laidMet P ((name, textData l) :: rest) W) : ∀ i, i < l.length → W.cell? ⟨g, i, none⟩ = some (.string (l.getD i ⟨#[]⟩)) := by
  obtain ⟨ps, ⟨g', t', cs, fuel, p, q, hg', ht', hvar, hd, _, _⟩, _⟩ := h
  obtain rfl := Option.some.inj (hg.symm.trans hg')
  obtain rfl := Option.some.inj (hty.symm.trans ht')
  intro i hi
  rw [World.var?_cell hg hvar i, ← Array.getElem?_toList, cells_of_texts ht he hce hct hd]
  simp [List.getD, hi]

theorem laid_kinds {H : Type} : (Rows.laid_engross_event_kinds : DataW H) = textData kindsL := rfl
theorem laid_reasons {H : Type} : (Rows.laid_engross_event_reasons : DataW H) = textData reasonsL := rfl
theorem held_of_laid {W : World} (hL : laidMet Tryd.prog [("engross/event.kinds", Rows.laid_engross_event_kinds), ("engross/event.reasons", Rows.laid_engross_event_reasons)] W) : KHeld W := by
  have h2 := hL.tail
  rw [laid_kinds] at hL
  rw [laid_reasons] at h2
  exact ⟨texts_of_head gK gKType Tryd.underlying60 Tryd.underlying9 cells9 cells60 hL, texts_of_head gR gRType Tryd.underlying61 Tryd.underlying9 cells9 cells61 h2⟩

noncomputable def laidWorld (os : Os) : World :=
  let w0 := World.holding Tryd.prog os ⟨#[], #[], []⟩
  let put (h : Array Obj) (g : Nat) (cs : Array Value) : Array Obj := h.modify g fun
    | .cells _ t frozen => .cells cs t frozen
    | o => o
  { w0 with heap := put (put w0.heap 0 (kindsL.map Value.string).toArray) 1 (reasonsL.map Value.string).toArray }
theorem laid_met (os : Os) (args : Array Value) : laidMet Tryd.prog [("engross/event.kinds", Rows.laid_engross_event_kinds), ("engross/event.reasons", Rows.laid_engross_event_reasons)] ((laidWorld os).forCall (fun _ _ => 0) ⟨#[], args, []⟩).memory :=
  laidMet_of_run' 8 (by kernel_rfl) (by kernel_rfl)
end Go.Proofs.YtnakmlnjfjgghaaDoor
