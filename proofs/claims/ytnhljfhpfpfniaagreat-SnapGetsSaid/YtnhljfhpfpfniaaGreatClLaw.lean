/- What the laws of columns ask of the program; the example; the walk of ColumnGets. -/
import Derived.Test.YtnhljfhpfpfniaaGreatClRef3
import Derived.Lib.Strings
import Derived.Laws.StructEq
namespace Go.Proofs.YtnhljfhpfpfniaaGreat
open Go.RowKit Base Base2

/-- What Put answers. -/
def putV (l : List Int) : ByteArray × Int := if l.length ≤ 65536 then (putB l, 0) else (⟨#[]⟩, 4)
/-- What Get answers. -/
def getV (s : ByteArray) (most : Int) : List Int × Nat × Int := if most < 0 ∨ 65536 < most then ([], 0, 1) else getS s.data.toList most.toNat
/-- A row of runs. -/
def RunsIn (W : World) (a : Option Addr) (r : List RunT) : Prop := r = [] ∨ ∃ b off, a = some ⟨b, off, none⟩ ∧ b < W.heap.size ∧ ∀ (i : Nat) (p : RunT), r[i]? = some p → W.cell? ⟨b, off + i * 2, none⟩ = some (.int .i64 p.1) ∧ W.cell? ⟨b, off + i * 2 + 1, none⟩ = some (.int .i64 (p.2 : Int))
theorem RunsIn.below {W W' : World} {a : Option Addr} {r : List RunT} (h : RunsIn W a r) (hb : Below W.heap.size W W') : RunsIn W' a r := by
  rcases h with h | ⟨b, off, rfl, h1, h2⟩
  · exact .inl h
  · exact .inr ⟨b, off, rfl, Nat.lt_of_lt_of_le h1 hb.size, fun i p hi => ⟨(hb.cell (p := ⟨b, off + i * 2, none⟩) h1).trans (h2 i p hi).1, (hb.cell (p := ⟨b, off + i * 2 + 1, none⟩) h1).trans (h2 i p hi).2⟩⟩
theorem runs_own {W : World} {base : Nat} {v : Value} {r : List RunT} (h : W.ownsRow base 151 2 v r.length (flatR r)) : ∃ a c, v = .slice a r.length c ∧ RunsIn W a r := by
  have h0 := h
  rcases h.2 with ⟨rfl, hn⟩ | ⟨g, cap, cur, rfl, a1, a2, a3, a4, a5, a6⟩
  · exact ⟨none, 0, by rw [hn], .inl (List.eq_nil_of_length_eq_zero hn)⟩
  · refine ⟨_, _, rfl, .inr ⟨g, 0, rfl, (Array.getElem?_eq_some_iff.1 a2).1, fun i p hi => ?_⟩⟩
    have hil := (List.getElem?_eq_some_iff.1 hi).1
    have hat := flatR_at r i p hi
    rw [Nat.zero_add]
    exact ⟨(h0.cellAt (i * 2) (by omega)).trans hat.1, (h0.cellAt (i * 2 + 1) (by omega)).trans hat.2⟩
/-- Two runs, held alike. -/
theorem eqIn_run (x y x' y' : Int) (W : World) : (Op.equalIn 10000 151 (.agg #[.int .i64 x, .int .i64 y]) (.agg #[.int .i64 x', .int .i64 y'])).run Tryz.prog W = .ok (x == x' && y == y') W := by
  have h2 : ∀ a b : Int, (Op.equalIn 9999 2 (.int .i64 a) (.int .i64 b)).run Tryz.prog W = .ok (a == b) W := fun a b => run_equalIn_int W 9998 2 .i64 .i64 a b Tryz.underlying2
  rw [Op.equalIn]
  simp [run_underlying Tryz.underlying151, Tryz.sizeOf2, Result.andThen, Std.Legacy.Range.forIn_eq_forIn_range', List.range', part, h2, Tryz.isAgg2]
  cases hx : (x == x') <;> cases hy : (y == y') <;> simp_all
theorem eql_run (x y x' y' : Int) (W : World) : (binOp .eql 151 (.agg #[.int .i64 x, .int .i64 y]) (.agg #[.int .i64 x', .int .i64 y'])).run Tryz.prog W = .ok (.bool (x == x' && y == y')) W := by
  rw [run_eql_struct, eqIn_run]; rfl
theorem neq_run (x y : Int) (W : World) : (binOp .neq 151 (.agg #[.int .i64 x, .int .i64 y]) (.agg #[.int .i64 x, .int .i64 y])).run Tryz.prog W = .ok (.bool false) W := by
  rw [run_neq_struct, eqIn_run]; simp [Result.andThen]
theorem ex_put : putB [5, 6, 7, 7] = ⟨#[4, 10, 1, 2, 2, 0, 1]⟩ := by decide +kernel
theorem new_fourC (W : World) (a b c d : Int) (T : TypeId) : I64s (W.alloc (.cells #[.int .i64 a, .int .i64 b, .int .i64 c, .int .i64 d] T)) (some ⟨W.heap.size, 0, none⟩) [a, b, c, d] := by
  refine .inr ⟨W.heap.size, 0, rfl, by simp, fun i z hi => ?_⟩
  have h := heap_alloc_new W (.cells #[.int .i64 a, .int .i64 b, .int .i64 c, .int .i64 d] T)
  rw [Nat.zero_add, cell_of_row _ _ _ _ T (0, 0) h]
  rcases i with _ | _ | _ | _ | i
  · simpa using hi
  · simpa using hi
  · simpa using hi
  · simpa using hi
  · simp at hi
end Go.Proofs.YtnhljfhpfpfniaaGreat
