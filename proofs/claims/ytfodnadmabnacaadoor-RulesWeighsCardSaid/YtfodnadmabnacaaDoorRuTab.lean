/- A listed table of structs: its cells, element by element: plain. -/
import Derived.Test.YtfodnadmabnacaaDoorRuIn
import Derived.Lib.LaidTab
import Derived.Stop.LaidErr
import Derived.LaidMore
import Derived.LaidHandle
namespace Go.Proofs.YtfodnadmabnacaaDoor
open Go.ChangeShapes Go.WideShapes Go.ChangeAt Go.RowKit Go.Lib Base Base2

section
variable {H : Type} {enc : TypeId × Value → H} {P : Program} {W : World} {base : Nat} {sp : Nat → Bool} {held : Bool}

/-- What stands in an array's cells, element by element. -/
theorem el_at {name : String} {cs : Array Value} {g : Nat} {t e : TypeId} {n k fuel : Nat} {ds : List (DataW H)} {p : List MemPlace} (hg : P.globalNamed name = some g) (hv : W.var? P name = some cs)
    (ht : P.underlying t = some (.array n e)) (hce : P.cellsOf e = k) (hd : DataW.trod enc P W base sp held fuel t cs.toList = some (.agg ds, p)) :
    ∀ (i : Nat) (d : DataW H), ds[i]? = some d → ∃ m c q, DataW.trod enc P W base sp held m e c = some (d, q) ∧ ∀ j, j < k → W.cell? ⟨g, i * k + j, none⟩ = c[j]? := by
  obtain ⟨xs, m, _, hx, _, hn, hi⟩ := DataW.trod_array ht hd
  simp only [Prod.mk.injEq, DataW.agg.injEq] at hx
  obtain ⟨rfl, _⟩ := hx
  intro i d hid
  rw [List.getElem?_map, Option.map_eq_some_iff] at hid
  obtain ⟨y, hy, rfl⟩ := hid
  have hin : i < n := by rw [← hn]; exact (List.getElem?_eq_some_iff.1 hy).1
  have h1 := hi i hin
  rw [hce, hy] at h1
  refine ⟨m, _, y.2, h1, fun j hj => ?_⟩
  rw [World.var?_cell hg hv (i * k + j), List.getElem?_take, if_pos hj, List.getElem?_drop, Array.getElem?_toList]

/-- A listed variable's reading. -/
theorem reads_of_laid {name : String} {d : DataW Unit} {rest : List (String × DataW Unit)} {g : Nat} {t : TypeId} (hg : P.globalNamed name = some g) (hty : (P.globals[g]?).map (·.type) = some t)
    (h : laidMet P ((name, d) :: rest) W) : ∃ (enc : TypeId × Value → Unit) (b : Nat) (s : Nat → Bool) (hh : Bool) (cs : Array Value) (fuel : Nat) (p : List MemPlace), W.var? P name = some cs ∧ DataW.trod enc P W b s hh fuel t cs.toList = some (d, p) := by
  obtain ⟨_, ⟨g1, t1, cs, _, _, _, a1, a2, a3, a4, _⟩, _⟩ := h
  obtain rfl := Option.some.inj (hg.symm.trans a1)
  obtain rfl := Option.some.inj (hty.symm.trans a2)
  exact ⟨_, _, _, _, cs, _, _, a3, a4⟩

theorem get_td {c : List Value} {o : Nat} {v : Value} (h : (c.drop o).take 1 = [v]) : c[o]? = some v := by
  have h2 := congrArg (fun k : List Value => k[0]?) h
  simp only [List.getElem?_take, List.getElem?_drop] at h2
  simpa using h2
/-- A struct of a text and two numbers. -/
theorem sii_row {e : TypeId} {f0 f1 f2 : Field} {m : Nat} {c : List Value} {s : ByteArray} {x y : Int} {q : List MemPlace} (he : P.underlying e = some (.struct #[f0, f1, f2]))
    (o0 : f0.offset = 0) (o1 : f1.offset = 1) (o2 : f2.offset = 2) (t0 : P.underlying f0.type = some .string) (t1 : P.underlying f1.type = some (.int .i64)) (t2 : P.underlying f2.type = some (.int .i64))
    (c0 : P.cellsOf f0.type = 1) (c1 : P.cellsOf f1.type = 1) (c2 : P.cellsOf f2.type = 1)
    (h : DataW.trod enc P W base sp held m e c = some (.agg [.lit (.string s.data.toList), .lit (.int .i64 x), .lit (.int .i64 y)], q)) : c[0]? = some (.string s) ∧ c[1]? = some (.int .i64 x) ∧ c[2]? = some (.int .i64 y) := by
  obtain ⟨xs, n, _, hx, _, hlen, hf⟩ := DataW.trod_struct he h
  simp only [Prod.mk.injEq, DataW.agg.injEq] at hx
  obtain ⟨hx, _⟩ := hx
  match xs, hlen with
  | [y0, y1, y2], _ =>
    simp only [List.map_cons, List.map_nil, List.cons.injEq, and_true] at hx
    obtain ⟨e0, e1, e2⟩ := hx
    have h0 := hf 0 f0 rfl
    have h1 := hf 1 f1 rfl
    have h2 := hf 2 f2 rfl
    rw [o0, c0] at h0
    rw [o1, c1] at h1
    rw [o2, c2] at h2
    obtain ⟨s', u0, v0, _⟩ := DataW.trod_string t0 h0
    obtain ⟨x', u1, v1, _⟩ := DataW.trod_int t1 h1
    obtain ⟨y', u2, v2, _⟩ := DataW.trod_int t2 h2
    rw [v0] at e0
    rw [v1] at e1
    rw [v2] at e2
    simp only [DataW.lit.injEq, Lit.string.injEq, Lit.int.injEq, true_and] at e0 e1 e2
    have es : s = s' := ByteArray.ext (Array.toList_inj.1 e0)
    subst es e1 e2
    refine ⟨?_, ?_, ?_⟩
    · exact get_td u0
    · exact get_td u1
    · exact get_td u2
end

/-- A table of such structs, as a row lists it. -/
def siiData {H : Type} (l : List (ByteArray × Int × Int)) : DataW H := .agg (l.map fun r => .agg [.lit (.string r.1.data.toList), .lit (.int .i64 r.2.1), .lit (.int .i64 r.2.2)])
theorem sii_of_head {P : Program} {W : World} {name : String} {l : List (ByteArray × Int × Int)} {rest : List (String × DataW Unit)} {g : Nat} {t e : TypeId} {n : Nat} {f0 f1 f2 : Field}
    (hg : P.globalNamed name = some g) (hty : (P.globals[g]?).map (·.type) = some t) (ht : P.underlying t = some (.array n e)) (he : P.underlying e = some (.struct #[f0, f1, f2])) (hce : P.cellsOf e = 3)
    (o0 : f0.offset = 0) (o1 : f1.offset = 1) (o2 : f2.offset = 2) (t0 : P.underlying f0.type = some .string) (t1 : P.underlying f1.type = some (.int .i64)) (t2 : P.underlying f2.type = some (.int .i64))
    (c0 : P.cellsOf f0.type = 1) (c1 : P.cellsOf f1.type = 1) (c2 : P.cellsOf f2.type = 1) (h : laidMet P ((name, siiData l) :: rest) W) :
    ∀ (i : Nat) (r : ByteArray × Int × Int), l[i]? = some r → W.cell? ⟨g, i * 3, none⟩ = some (.string r.1) ∧ W.cell? ⟨g, i * 3 + 1, none⟩ = some (.int .i64 r.2.1) ∧ W.cell? ⟨g, i * 3 + 2, none⟩ = some (.int .i64 r.2.2) := by
  obtain ⟨enc, b, s, hh, cs, fuel, p, hv, hd⟩ := reads_of_laid hg hty h
  intro i r hi
  obtain ⟨m, c, q, h1, h2⟩ := el_at hg hv ht hce hd i _ (by rw [List.getElem?_map, hi]; rfl)
  obtain ⟨u0, u1, u2⟩ := sii_row he o0 o1 o2 t0 t1 t2 c0 c1 c2 h1
  exact ⟨(h2 0 (by decide)).trans u0, (h2 1 (by decide)).trans u1, (h2 2 (by decide)).trans u2⟩
end Go.Proofs.YtfodnadmabnacaaDoor
