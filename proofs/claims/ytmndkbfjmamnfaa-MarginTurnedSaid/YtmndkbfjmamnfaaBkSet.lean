/- A row of things that is made: what it owns, what it is for others. -/
import Derived.Test.YtmndkbfjmamnfaaBkRef4
namespace Go.Proofs.Ytmndkbfjmamnfaa
open Go.RowKit Base Base2

def flatI (l : List Item) : List Value := (l.map (fun x => x.map (Value.int .i64))).flatten
theorem flatI_app (l m : List Item) : flatI (l ++ m) = flatI l ++ flatI m := by simp [flatI]
theorem flatI_one (x : Item) : flatI [x] = x.map (Value.int .i64) := by simp [flatI]
theorem flatI_at {k : Nat} : ∀ (l : List Item), (∀ x ∈ l, x.length = k) → ∀ (i : Nat) (x : Item), l[i]? = some x → ∀ (j : Nat) (z : Int), x[j]? = some z → (flatI l)[i * k + j]? = some (.int .i64 z)
  | [], _, i, x, h, _, _, _ => by simp at h
  | y :: l, hk, 0, x, h, j, z, hz => by
    simp at h; subst h
    have hj := (List.getElem?_eq_some_iff.1 hz).1
    show (y.map (Value.int .i64) ++ flatI l)[0 * k + j]? = _
    rw [Nat.zero_mul, Nat.zero_add, List.getElem?_append_left (by simpa using hj), List.getElem?_map, hz]; rfl
  | y :: l, hk, i + 1, x, h, j, z, hz => by
    have ih := flatI_at l (fun x hx => hk x (List.mem_cons_of_mem _ hx)) i x (by simpa using h) j z hz
    have hy := hk y (List.mem_cons_self ..)
    show (y.map (Value.int .i64) ++ flatI l)[(i + 1) * k + j]? = _
    rw [List.getElem?_append_right (by simp [hy, Nat.add_mul]; omega), List.length_map, hy, show (i + 1) * k + j - k = i * k + j by rw [Nat.add_mul]; omega]
    exact ih
theorem rows_own {k : Nat} (_ : 0 < k) {W : World} {base : Nat} {T : TypeId} {v : Value} {l : List Item} (hk : ∀ x ∈ l, x.length = k) (h : W.ownsRow base T k v l.length (flatI l)) : ∃ a c, v = .slice a l.length c ∧ RowsOf k W a l := by
  have h0 := h
  rcases h.2 with ⟨rfl, hn⟩ | ⟨g, cap, cur, rfl, a1, a2, a3, a4, a5, a6⟩
  · exact ⟨none, 0, by rw [hn], .inl (List.eq_nil_of_length_eq_zero hn)⟩
  · refine ⟨_, _, rfl, .inr ⟨g, 0, rfl, (Array.getElem?_eq_some_iff.1 a2).1, fun i x hi j z hz => ?_⟩⟩
    have hat := flatI_at l hk i x hi j z hz
    have := h0.cells (g := g) rfl (i * k + j) _ hat
    rw [Addr.add_mid] at this
    rw [show 0 + i * k + j = 0 + (i * k + j) by omega]
    exact this
theorem new_cells (W : World) (cs : List Value) (T : TypeId) : ∀ (j : Nat) (u : Value), cs[j]? = some u → (W.alloc (.cells cs.toArray T)).cell? ((⟨W.heap.size, 0, none⟩ : Addr).add j) = some u := by
  intro j u hu
  have h := heap_alloc_new W (.cells cs.toArray T)
  rw [Addr.add_mid, Nat.zero_add, cell_of_row _ _ _ _ T (0, 0) h]
  simpa using hu
theorem one_items (x : Item) : ∀ u ∈ x.map (Value.int .i64), u.oneCell' = true := by
  intro u hu
  obtain ⟨z, _, rfl⟩ := List.mem_map.1 hu
  rfl
/-- A row that is being made, from a block on; below it all lies as it lay. -/
structure SetSt (B : Nat) (W0 : World) (T : TypeId) (k : Nat) (o : List Item) (v : Value) (W : World) : Prop where
  row : W.ownsRow B T k v o.length (flatI o)
  lo : Below B W0 W
  sz : B ≤ W.heap.size
theorem SetSt.app {B : Nat} {W0 : World} {T : TypeId} {k : Nat} {o : List Item} {v v' : Value} {W w2 : World} {ob : Obj} {x : Item} (h : SetSt B W0 T k o v W) (hr : w2.ownsRow B T k v' (o.length + 1) (flatI o ++ x.map (Value.int .i64))) (hg : (W.alloc ob).grownBy w2 v.ownBlock) : SetSt B W0 T k (o ++ [x]) v' w2 :=
  have hg2 := World_grown_alloc hg
  ⟨by rw [flatI_app, flatI_one, List.length_append]; exact hr, h.lo.grown hg2 h.sz (own_block_ge h.row), Nat.le_trans h.sz hg2.size⟩
theorem SetSt.drewN {B : Nat} {W0 : World} {T : TypeId} {k : Nat} {o : List Item} {v : Value} {W : World} (h : SetSt B W0 T k o v W) (m : Nat) : SetSt B W0 T k o v (W.drewN m) := ⟨h.row, below_drewN' h.lo m, h.sz⟩
theorem SetSt.nil {B : Nat} {W0 : World} {T : TypeId} {k : Nat} (h : B ≤ W0.heap.size) : SetSt B W0 T k [] (.slice none 0 0) W0 := ⟨⟨by simp [flatI], .inl ⟨rfl, rfl⟩⟩, Below.refl _ _, h⟩
theorem own_formK {W : World} {base : Nat} {e : TypeId} {k : Nat} {v : Value} {n : Nat} {xs : List Value} (h : W.ownsRow base e k v n xs) : ∃ av cv, v = .slice av n cv := by
  rcases h.2 with ⟨rfl, hn⟩ | ⟨g, cap2, cur, rfl, _⟩
  · exact ⟨_, _, by rw [hn]⟩
  · exact ⟨_, _, rfl⟩
theorem own_low {W W' : World} {B n k : Nat} {T : TypeId} {v : Value} {xs : List Value} (h : W.ownsRow B T k v n xs) (hs : ∀ i, B ≤ i → W'.heap[i]? = W.heap[i]?) : W'.ownsRow B T k v n xs := by
  obtain ⟨e, h0⟩ := h
  refine ⟨e, ?_⟩
  rcases h0 with h0 | ⟨g, cap, cur, rfl, a1, a2, a3⟩
  · exact .inl h0
  · exact .inr ⟨g, cap, cur, rfl, a1, (hs g a1).trans a2, a3⟩
theorem infoH : (Try.prog.info? 45).map (fun i => (i.zero, i.size, i.bytes)) = some (some (.agg #[.int .i64 0, .int .i64 0, .int .i64 0, .int .i64 0]), 4, 32) := by kernel_rfl
theorem infoO : (Try.prog.info? 37).map (fun i => (i.zero, i.size, i.bytes)) = some (some (.agg #[.int .i64 0, .int .i64 0, .int .i64 0, .int .i64 0, .int .i64 0, .int .i64 0]), 6, 48) := by kernel_rfl
theorem infoS : (Try.prog.info? 43).map (fun i => (i.zero, i.size, i.bytes)) = some (some (.agg #[.int .i64 0, .int .i64 0, .int .i64 0]), 3, 24) := by kernel_rfl
theorem infoR : (Try.prog.info? 67).map (fun i => (i.zero, i.size, i.bytes)) = some (some (.agg #[.int .i64 0, .int .i64 0]), 2, 16) := by kernel_rfl
theorem room2 {n : Nat} (k : Nat) (hk : k ≤ 100) (h : n ≤ 1001) : n + 1 + 1 ≤ maxLen ∧ (n + 1 + 1) * k ≤ 140737488355328 := by
  refine ⟨by unfold maxLen; omega, ?_⟩
  have : (n + 1 + 1) * k ≤ 1003 * 100 := Nat.mul_le_mul (by omega) hk
  omega
/-- What an answer that is a book is. -/
def BookAns (w : World) (b : BookT) (e : Ending) (w' : World) : Prop := (∃ v, e = .returned (.agg (cellsB v b)) ∧ BookIn w' v b) ∧ Below w.heap.size w w'
end Go.Proofs.Ytmndkbfjmamnfaa
