/- A pair that comes in, opened as nine numbers, and shut again. -/
import Derived.Test.YtnakmlnjfjgghaaDoorEvLaid
import Derived.Test.YtnakmlnjfjgghaaDoorEvGet
namespace Go.Proofs.YtnakmlnjfjgghaaDoor
open Go.ChangeShapes Go.WideShapes Go.ChangeAt Go.RowKit Go.Lib

def asI : Value → Int
  | .int _ z => z
  | _ => 0
theorem struct_ints {H : Type} {enc : TypeId × Value → H} {P : Program} {w : World} {base : Nat} {sp : Nat → Bool} {held : Bool} {fuel : Nat} {t : TypeId} {fs : Array Field} {n : Nat} {cs : List Value} {x : DataW H × List MemPlace}
    (ht : P.underlying t = some (.struct fs)) (hf : ∀ (i : Nat) (f : Field), fs[i]? = some f → f.offset = i ∧ P.underlying f.type = some (.int .i64) ∧ P.cellsOf f.type = 1) (hn : fs.size = n) (hc : P.cellsOf t = n)
    (h : DataW.trod enc P w base sp held fuel t cs = some x) : ∃ l : List Int, l.length = n ∧ cs = l.map (Value.int .i64) ∧ x = (.agg (l.map fun z => .lit (.int .i64 z)), []) ∧ ∀ z ∈ l, (Lit.int .i64 z).wf = true := by
  obtain ⟨xs, m, rfl, rfl, hl, hxl, hi⟩ := DataW.trod_struct ht h
  have key : ∀ i, i < n → ∃ z, cs[i]? = some (.int .i64 z) ∧ xs[i]? = some (.lit (.int .i64 z), []) ∧ (Lit.int .i64 z).wf = true := by
    intro i hin
    have hfi : fs[i]? = some (fs[i]'(by omega)) := by simp [hn, hin]
    obtain ⟨ho, hu, hce⟩ := hf i _ hfi
    have h1 := hi i _ hfi
    have h2 : xs[i]? = some (xs[i]'(by omega)) := by simp [hxl, hn, hin]
    rw [h2] at h1
    obtain ⟨z, hz, hx, hw⟩ := DataW.trod_int hu h1
    refine ⟨z, ?_, by rw [h2, hx], hw⟩
    rw [ho, hce] at hz
    have := congrArg (·[0]?) hz
    simpa [List.getElem?_take, List.getElem?_drop] using this
  have hcl : cs.length = n := by omega
  have hcs : cs = (cs.map asI).map (Value.int .i64) := by
    apply List.ext_getElem?
    intro i
    by_cases hin : i < n
    · obtain ⟨z, h1, _, _⟩ := key i hin
      simp [h1, asI]
    · rw [List.getElem?_eq_none (by omega), List.getElem?_eq_none (by simp; omega)]
  refine ⟨cs.map asI, by simp [hcl], hcs, ?_, ?_⟩
  · have hxs : xs = (cs.map asI).map (fun z => ((DataW.lit (.int .i64 z) : DataW H), ([] : List MemPlace))) := by
      apply List.ext_getElem?
      intro i
      by_cases hin : i < n
      · obtain ⟨z, h1, h2, _⟩ := key i hin
        simp [h1, h2, asI]
      · rw [List.getElem?_eq_none (by omega), List.getElem?_eq_none (by simp; omega)]
    rw [hxs]
    simp [List.flatMap, Function.comp_def]
  · intro z hz
    obtain ⟨i, hil, hi2⟩ := List.getElem_of_mem hz
    obtain ⟨y, h1, _, h3⟩ := key i (by simp at hil; omega)
    have : (cs.map asI)[i]? = some z := by rw [List.getElem?_eq_getElem hil, hi2]
    simp [h1, asI] at this
    rw [← this]; exact h3

theorem c3 : Tryd.prog.cellsOf 3 = 1 := by kernel_rfl
theorem c2 : Tryd.prog.cellsOf 2 = 1 := by kernel_rfl
theorem c23 : Tryd.prog.cellsOf 23 = 7 := by kernel_rfl
theorem c25 : Tryd.prog.cellsOf 25 = 2 := by kernel_rfl
theorem c27 : Tryd.prog.cellsOf 27 = 9 := by kernel_rfl

def litsI {H : Type} (l : List Int) : List (DataW H) := l.map fun z => .lit (.int .i64 z)
/-- What a pair reads as. -/
def pairData {H : Type} (l : List Int) : DataW H := .agg [.agg (litsI (l.take 7)), .agg (litsI (l.drop 7))]

set_option maxRecDepth 100000 in
theorem open_pair {H : Type} {enc : TypeId × Value → H} {w : World} {base : Nat} {sp : Nat → Bool} {held : Bool} {r : Reach} {b0 : Nat} {v : Value} {d : DataW H} {p : List MemPlace}
    (hv : Value.okWide Tryd.prog w r b0 27 v) (h : DataW.Trod enc Tryd.prog w base sp held 27 v d p) : ∃ l : List Int, v = .agg (rowI l) ∧ d = pairData l ∧ p = [] ∧ l.length = 9 ∧ ∀ z ∈ l, (Lit.int .i64 z).wf = true := by
  obtain ⟨cs, rfl, hsz⟩ := okWide_struct Tryd.underlying27 hv
  obtain ⟨fuel, hf⟩ := h
  obtain ⟨xs, m, rfl, hx, hl, hxl, hi⟩ := DataW.trod_struct Tryd.underlying27 hf
  obtain ⟨y0, y1, rfl⟩ : ∃ y0 y1, xs = [y0, y1] := by
    match xs, hxl with
    | [y0, y1], _ => exact ⟨_, _, rfl⟩
  have e0 : DataW.trod enc Tryd.prog w base sp held m 23 ((cs.toList.drop 0).take (Tryd.prog.cellsOf 23)) = some y0 := hi 0 _ rfl
  have e1 : DataW.trod enc Tryd.prog w base sp held m 25 ((cs.toList.drop 7).take (Tryd.prog.cellsOf 25)) = some y1 := hi 1 _ rfl
  rw [c23, List.drop_zero] at e0
  rw [c25] at e1
  obtain ⟨a, ha, hca, hxa, hwa⟩ := struct_ints Tryd.underlying23 (n := 7) (by
    intro i f hf
    rcases i with _ | _ | _ | _ | _ | _ | _ | i
    · obtain rfl := Option.some.inj hf.symm; exact ⟨rfl, Tryd.underlying3, c3⟩
    · obtain rfl := Option.some.inj hf.symm; exact ⟨rfl, Tryd.underlying2, c2⟩
    · obtain rfl := Option.some.inj hf.symm; exact ⟨rfl, Tryd.underlying2, c2⟩
    · obtain rfl := Option.some.inj hf.symm; exact ⟨rfl, Tryd.underlying2, c2⟩
    · obtain rfl := Option.some.inj hf.symm; exact ⟨rfl, Tryd.underlying3, c3⟩
    · obtain rfl := Option.some.inj hf.symm; exact ⟨rfl, Tryd.underlying2, c2⟩
    · obtain rfl := Option.some.inj hf.symm; exact ⟨rfl, Tryd.underlying2, c2⟩
    · simp at hf) rfl c23 e0
  obtain ⟨b, hb, hcb, hxb, hwb⟩ := struct_ints Tryd.underlying25 (n := 2) (by
    intro i f hf
    rcases i with _ | _ | i
    · obtain rfl := Option.some.inj hf.symm; exact ⟨rfl, Tryd.underlying3, c3⟩
    · obtain rfl := Option.some.inj hf.symm; exact ⟨rfl, Tryd.underlying2, c2⟩
    · simp at hf) rfl c25 e1
  subst hxa hxb
  have hlen : cs.toList.length = 9 := by simpa using hsz.trans c27
  have hcs : cs.toList = (a ++ b).map (Value.int .i64) := by
    rw [List.map_append, ← hca, ← hcb]
    rw [List.take_of_length_le (l := cs.toList.drop 7) (by rw [List.length_drop]; omega)]
    exact (List.take_append_drop 7 _).symm
  simp only [Prod.mk.injEq] at hx
  refine ⟨a ++ b, ?_, ?_, ?_, by rw [List.length_append, ha, hb], ?_⟩
  · congr 1
    apply Array.toList_inj.1
    rw [hcs]; rfl
  · rw [hx.1]
    unfold pairData litsI
    rw [List.take_left' ha, List.drop_left' ha]
    rfl
  · rw [hx.2]; rfl
  · intro z hz
    rcases List.mem_append.1 hz with h | h
    · exact hwa z h
    · exact hwb z h
theorem list9' {L : List Int} (h : L.length = 9) : ∃ b0 b1 b2 b3 b4 b5 b6 b7 b8, L = [b0, b1, b2, b3, b4, b5, b6, b7, b8] := by
  match L, h with
  | [b0, b1, b2, b3, b4, b5, b6, b7, b8], _ => exact ⟨_, _, _, _, _, _, _, _, _, rfl⟩
theorem shut_pair {H : Type} {enc : TypeId × Value → H} {w : World} {base : Nat} {sp : Nat → Bool} {held : Bool} (l : List Int) (hl : l.length = 9) (hw : ∀ z ∈ l, (Lit.int .i64 z).wf = true) : DataW.Trod enc Tryd.prog w base sp held 27 (.agg (rowI l)) (pairData l) [] := by
  obtain ⟨b0, b1, b2, b3, b4, b5, b6, b7, b8, rfl⟩ := list9' hl
  simp only [List.mem_cons, List.not_mem_nil, or_false, forall_eq_or_imp, forall_eq] at hw
  obtain ⟨w0, w1, w2, w3, w4, w5, w6, w7, w8⟩ := hw
  refine ⟨3, ?_⟩
  simp [DataW.trod, Value.cells, rowI, pairData, litsI, Tryd.underlying27, Tryd.underlying23, Tryd.underlying25, Tryd.underlying3, Tryd.underlying2, c27, c23, c25, c3, c2, w0, w1, w2, w3, w4, w5, w6, w7, w8]
theorem in_of_wf {l : List Int} (hw : ∀ z ∈ l, (Lit.int .i64 z).wf = true) : In64L l := by
  intro z hz
  have := hw z hz
  simp [Lit.wf, IntKind.min, IntKind.max, IntKind.signed, IntKind.bits] at this
  omega
end Go.Proofs.YtnakmlnjfjgghaaDoor
