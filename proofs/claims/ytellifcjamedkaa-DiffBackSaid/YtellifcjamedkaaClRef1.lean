/- The contract of the document's Runs. -/
import Derived.Test.YtellifcjamedkaaClMath
import Derived.Test.YtellifcjamedkaaBase2
import Derived.Laws.AppendOwn
import Derived.Laws.OwnMore
import Derived.WalkLawsBesides
namespace Go.Proofs.Ytellifcjamedkaa
open Go.RowKit Base Base2

/-- A row of numbers. -/
def I64s (W : World) (a : Option Addr) (l : List Int) : Prop := l = [] ∨ ∃ b off, a = some ⟨b, off, none⟩ ∧ b < W.heap.size ∧ ∀ (i : Nat) (z : Int), l[i]? = some z → W.cell? ⟨b, off + i, none⟩ = some (.int .i64 z)
theorem I64s.below {W W' : World} {a : Option Addr} {l : List Int} (h : I64s W a l) (hb : Below W.heap.size W W') : I64s W' a l := by
  rcases h with h | ⟨b, off, rfl, h1, h2⟩
  · exact .inl h
  · exact .inr ⟨b, off, rfl, Nat.lt_of_lt_of_le h1 hb.size, fun i z hi => (hb.cell (p := ⟨b, off + i, none⟩) h1).trans (h2 i z hi)⟩
theorem i64_own {W : World} {base : Nat} {v : Value} {l : List Int} (h : W.ownsRow base 2 1 v l.length (l.map (Value.int .i64))) : ∃ a c, v = .slice a l.length c ∧ I64s W a l := by
  obtain ⟨h1, h2⟩ := h
  rcases h2 with ⟨rfl, h0⟩ | ⟨g, cap, cur, rfl, a1, a2, a3, a4, a5, a6⟩
  · exact ⟨none, 0, by rw [h0], .inl (List.eq_nil_of_length_eq_zero h0)⟩
  · refine ⟨_, _, rfl, .inr ⟨g, 0, rfl, (Array.getElem?_eq_some_iff.1 a2).1, fun i z hi => ?_⟩⟩
    rw [Nat.zero_add, cell_of_row W g i cur 2 (0, 0) a2, ← Array.getElem?_toList]
    have hil := (List.getElem?_eq_some_iff.1 hi).1
    have h3 : (cur.toList.take (l.length * 1))[i]? = some (.int .i64 z) := by rw [a6, List.getElem?_map, hi]; rfl
    rw [List.getElem?_take, if_pos (by omega)] at h3
    exact h3
def flatR : List RunT → List Value
  | [] => []
  | p :: r => .int .i64 p.1 :: .int .i64 (p.2 : Int) :: flatR r
theorem flatR_app : ∀ (r s : List RunT), flatR (r ++ s) = flatR r ++ flatR s
  | [], _ => rfl
  | p :: r, s => by show _ :: _ :: flatR (r ++ s) = _; rw [flatR_app r s]; rfl
theorem flatR_len : ∀ r : List RunT, (flatR r).length = r.length * 2
  | [] => rfl
  | p :: r => by simp [flatR, flatR_len r]; omega
theorem flatR_at : ∀ (r : List RunT) (i : Nat) (p : RunT), r[i]? = some p → (flatR r)[i * 2]? = some (.int .i64 p.1) ∧ (flatR r)[i * 2 + 1]? = some (.int .i64 (p.2 : Int))
  | [], i, p, h => by simp at h
  | q :: r, 0, p, h => by simp at h; subst h; exact ⟨rfl, rfl⟩
  | q :: r, i + 1, p, h => by
    have ih := flatR_at r i p (by simpa using h)
    rw [show (i + 1) * 2 + 1 = i * 2 + 1 + 1 + 1 by omega, show (i + 1) * 2 = i * 2 + 1 + 1 by omega]
    exact ih
theorem infoRun : (Try.prog.info? 117).map (fun i => (i.zero, i.size, i.bytes)) = some (some (.agg #[.int .i64 0, .int .i64 0]), 2, 16) := by kernel_rfl
theorem one_run (a b : Int) : ∀ u ∈ [Value.int .i64 a, Value.int .i64 b], u.oneCell' = true := by
  intro u hu
  rcases List.mem_cons.1 hu with rfl | hu
  · rfl
  · rcases List.mem_cons.1 hu with rfl | hu
    · rfl
    · cases hu
theorem new_twoC (W : World) (a b : Value) (T : TypeId) : ∀ (j : Nat) (u : Value), [a, b][j]? = some u → (W.alloc (.cells #[a, b] T)).cell? ((⟨W.heap.size, 0, none⟩ : Addr).add j) = some u := by
  intro j u hu
  have h := heap_alloc_new W (.cells #[a, b] T)
  rw [Addr.add_mid, cell_of_row _ _ _ _ T (0, 0) h]
  rcases j with _ | _ | j
  · simpa using hu
  · simpa using hu
  · simp at hu
structure RunR (w : World) (r : List RunT) (v : Value) (W : World) : Prop where
  own : W.ownsRow w.heap.size 117 2 v r.length (flatR r)
  lo : Below w.heap.size w W
theorem RunR.nil (w W : World) (h : Below w.heap.size w W) : RunR w [] (.slice none 0 0) W := ⟨⟨rfl, .inl ⟨rfl, rfl⟩⟩, h⟩
theorem RunR.app {w W w2 : World} {r : List RunT} {v v' : Value} {d : Int} {o : Obj} (h : RunR w r v W) (ho : w2.ownsRow w.heap.size 117 2 v' (r.length + 1) (flatR r ++ [.int .i64 d, .int .i64 1])) (hg : (W.alloc o).grownBy w2 v.ownBlock) : RunR w (r ++ [(d, 1)]) v' w2 :=
  ⟨by rw [flatR_app, List.length_append]; exact ho, h.lo.grown (World_grown_alloc hg) h.lo.size (own_block_ge h.own)⟩
theorem set_last (xs : List Value) (a u v : Value) : (xs ++ [a, u]).set (xs.length + 1) v = xs ++ [a, v] := by
  rw [List.set_append_right _ _ (by omega), show xs.length + 1 - xs.length = 1 by omega]; rfl
theorem RunR.inc {w W : World} {r : List RunT} {g cap : Nat} {d : Int} {k : Nat} (h : RunR w (r ++ [(d, k)]) (.slice (some ⟨g, 0, none⟩) (r ++ [(d, k)]).length cap) W) : RunR w (r ++ [(d, k + 1)]) (.slice (some ⟨g, 0, none⟩) (r ++ [(d, k + 1)]).length cap) (W.setCell ⟨g, r.length * 2 + 1, none⟩ (.int .i64 ((k : Int) + 1))) := by
  have h1 := (h.own.stored (r.length * 2 + 1) (.int .i64 ((k : Int) + 1))).1
  have hg := (own_block_ge h.own) g rfl
  refine ⟨?_, h.lo.setCell (p := ⟨g, _, none⟩) hg _⟩
  have e1 : (r ++ [(d, k + 1)]).length = (r ++ [(d, k)]).length := by simp
  have e2 : flatR (r ++ [(d, k + 1)]) = (flatR (r ++ [(d, k)])).set (r.length * 2 + 1) (.int .i64 ((k : Int) + 1)) := by
    rw [flatR_app, flatR_app]
    show flatR r ++ [Value.int .i64 d, Value.int .i64 ((k + 1 : Nat) : Int)] = (flatR r ++ [Value.int .i64 d, Value.int .i64 (k : Int)]).set (r.length * 2 + 1) (Value.int .i64 ((k : Int) + 1))
    rw [← flatR_len r, set_last, Int.natCast_add]; rfl
  rw [e1, e2]
  exact h1
end Go.Proofs.Ytellifcjamedkaa
