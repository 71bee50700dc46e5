/- The document's columns of a book: the contract. -/
import Derived.Test.YtnhljfhpfpfniaaGreatSnMath
import Derived.Test.YtnhljfhpfpfniaaGreatBkRef1
import Derived.Test.YtnhljfhpfpfniaaGreatClRef1
import Derived.Maps.AppendAt
import Derived.Lib.OwnKind
namespace Go.Proofs.YtnhljfhpfpfniaaGreat
open Go.RowKit Base Base2

def upd {α : Type} (V : Nat → α) (j : Nat) (v : α) : Nat → α := fun i => if i = j then v else V i
theorem upd_at {α : Type} (V : Nat → α) (j : Nat) (v : α) : upd V j v j = v := by simp [upd]
theorem upd_ne {α : Type} (V : Nat → α) {i j : Nat} (v : α) (h : i ≠ j) : upd V j v i = V i := by simp [upd, h]
/-- Fifteen rows of numbers in an array that lies in a block. -/
structure ColsS (B g : Nat) (W0 : World) (V : Nat → Value) (C : Nat → List Int) (W : World) : Prop where
  lo : Below g W0 W
  sz : B ≤ W.heap.size
  gB : g < B
  box : W.heap[g]? = some (.cells ((List.range 15).map V).toArray 77 (0, 0))
  own : ∀ j, j < 15 → W.ownsRow B 2 1 (V j) (C j).length ((C j).map (Value.int .i64))
  ap : ∀ i j, i < 15 → j < 15 → i ≠ j → (V i).ownBlock = none ∨ (V i).ownBlock ≠ (V j).ownBlock
theorem ColsS.cell {B g : Nat} {W0 W : World} {V : Nat → Value} {C : Nat → List Int} (h : ColsS B g W0 V C W) {j : Nat} (hj : j < 15) : W.cell? ⟨g, j, none⟩ = some (V j) := by
  rw [cell_of_row W g j _ _ (0, 0) h.box]
  simp [hj]
theorem ColsS.own_lt {B g : Nat} {W0 W : World} {V : Nat → Value} {C : Nat → List Int} (h : ColsS B g W0 V C W) {j : Nat} (hj : j < 15) : ∀ k, (V j).ownBlock = some k → B ≤ k ∧ k < W.heap.size := (h.own j hj).lt
theorem own_belowS {W W' : World} {B n k : Nat} {T : TypeId} {v : Value} {xs : List Value} (h : W.ownsRow B T k v n xs) (hb : ∀ i, i < W.heap.size → W'.heap[i]? = W.heap[i]?) : W'.ownsRow B T k v n xs := by
  obtain ⟨e, h0⟩ := h
  refine ⟨e, ?_⟩
  rcases h0 with h0 | ⟨g, cap, cur, rfl, a1, a2, a3⟩
  · exact .inl h0
  · exact .inr ⟨g, cap, cur, rfl, a1, (hb g (Array.getElem?_eq_some_iff.1 a2).1).trans a2, a3⟩
theorem own_lowS {W W' : World} {B n k : Nat} {T : TypeId} {v : Value} {xs : List Value} (h : W.ownsRow B T k v n xs) (hs : ∀ i, B ≤ i → W'.heap[i]? = W.heap[i]?) : W'.ownsRow B T k v n xs := by
  obtain ⟨e, h0⟩ := h
  refine ⟨e, ?_⟩
  rcases h0 with h0 | ⟨g, cap, cur, rfl, a1, a2, a3⟩
  · exact .inl h0
  · exact .inr ⟨g, cap, cur, rfl, a1, (hs g a1).trans a2, a3⟩
theorem own_formS {W : World} {base : Nat} {e : TypeId} {k : Nat} {v : Value} {n : Nat} {xs : List Value} (h : W.ownsRow base e k v n xs) : ∃ av cv, v = .slice av n cv := by
  rcases h.2 with ⟨rfl, hn⟩ | ⟨g, cap2, cur, rfl, _⟩
  · exact ⟨_, _, by rw [hn]⟩
  · exact ⟨_, _, rfl⟩
theorem ColsS.below {B g : Nat} {W0 W W' : World} {V : Nat → Value} {C : Nat → List Int} (h : ColsS B g W0 V C W) (hb : Below W.heap.size W W') : ColsS B g W0 V C W' :=
  ⟨h.lo.trans (hb.mono (Nat.le_trans (Nat.le_of_lt h.gB) h.sz)), Nat.le_trans h.sz hb.size, h.gB, (hb.block g (Nat.lt_of_lt_of_le h.gB h.sz)).trans h.box, fun j hj => own_belowS (h.own j hj) hb.block, h.ap⟩
theorem range_upd (V : Nat → Value) (j : Nat) (v : Value) : ((List.range 15).map V).toArray.setIfInBounds j v = ((List.range 15).map (upd V j v)).toArray := by
  apply Array.ext'
  rw [Array.toList_setIfInBounds]
  apply List.ext_getElem?
  intro i
  rw [List.getElem?_set]
  by_cases hi : i < 15
  · by_cases e : j = i
    · subst e; simp [hi, upd]
    · rw [if_neg e]; simp [hi, upd, Ne.symm e]
  · by_cases e : j = i
    · subst e; simp [hi]
    · rw [if_neg e]; simp [hi]
theorem ColsS.put {B g : Nat} {W0 W W1 : World} {V : Nat → Value} {C : Nat → List Int} (h : ColsS B g W0 V C W) {j : Nat} (hj : j < 15) {v' : Value} {z : Int} (hown : W1.ownsRow B 2 1 v' ((C j).length + 1) ((C j).map (Value.int .i64) ++ [.int .i64 z])) (hg : W.grownBy W1 (V j).ownBlock) (hat : v'.ownBlock = (V j).ownBlock ∨ v'.ownBlock = some W.heap.size) :
    ColsS B g W0 (upd V j v') (upd C j (C j ++ [z])) (W1.setCell ⟨g, j, none⟩ v') := by
  have hgj : some g ≠ (V j).ownBlock := fun e => by have := h.own_lt hj g e.symm; have := h.gB; omega
  have hgl : g < W.heap.size := Nat.lt_of_lt_of_le h.gB h.sz
  have hbox1 : W1.heap[g]? = some (.cells ((List.range 15).map V).toArray 77 (0, 0)) := (hg.block g hgl hgj).trans h.box
  have hne : ∀ {W2 : World} (i : Nat), B ≤ i → (W2.setCell ⟨g, j, none⟩ v').heap[i]? = W2.heap[i]? := fun i hi => Below.heap_setCell _ ⟨g, j, none⟩ v' i (by have := h.gB; dsimp only; omega)
  refine ⟨(h.lo.grown hg (Nat.le_of_lt hgl) (fun k e => by have := h.own_lt hj k e; have := h.gB; omega)).setCell (p := ⟨g, j, none⟩) (Nat.le_refl _) v', ?_, h.gB, ?_, fun i hi => ?_, fun i k hi hk hik => ?_⟩
  · have := hg.size; have := h.sz; simp; omega
  · rw [set_blkN hbox1 j v', range_upd]
  · by_cases e : i = j
    · subst e
      rw [upd_at, upd_at, List.length_append, List.map_append]
      exact own_lowS hown (fun k hk => hne k hk)
    · rw [upd_ne V v' e, upd_ne C _ e]
      exact own_lowS ((h.own i hi).kept hg (h.ap i j hi hj e)) (fun k hk => hne k hk)
  · by_cases e1 : i = j
    · subst e1
      rw [upd_at, upd_ne V v' (Ne.symm hik)]
      rcases hat with hat | hat
      · rw [hat]; exact h.ap i k hi hk hik
      · rw [hat]
        refine .inr (fun e => ?_)
        have := h.own_lt hk _ e.symm
        omega
    · rw [upd_ne V v' e1]
      by_cases e2 : k = j
      · subst e2
        rw [upd_at]
        rcases hat with hat | hat
        · rw [hat]; exact h.ap i k hi hk hik
        · rw [hat]
          cases hv : (V i).ownBlock with
          | none => exact .inl rfl
          | some q => exact .inr (fun e => by have := h.own_lt hi q hv; have e := Option.some.inj e; omega)
      · rw [upd_ne V v' e2]; exact h.ap i k hi hk hik
theorem ColsS.lo_grown {B g : Nat} {W0 W W1 : World} {V : Nat → Value} {C : Nat → List Int} (h : ColsS B g W0 V C W) {j : Nat} (hj : j < 15) (hg : W.grownBy W1 (V j).ownBlock) : Below g W0 W1 :=
  h.lo.grown hg (Nat.le_of_lt (Nat.lt_of_lt_of_le h.gB h.sz)) (fun k e => by have := h.own_lt hj k e; have := h.gB; omega)
theorem item_kept {B : Nat} {W W1 : World} {v : Value} {n : Nat} {xs : List Value} {h : Nat} {cs : Array Value} {T : TypeId} (hh : W.heap[h]? = some (.cells cs T (0, 0))) (hT : T ≠ 2) (ho : W.ownsRow B 2 1 v n xs) (hg : W.grownBy W1 v.ownBlock) : W1.heap[h]? = some (.cells cs T (0, 0)) := by
  refine (hg.block h (Array.getElem?_eq_some_iff.1 hh).1 (fun e => ?_)).trans hh
  obtain ⟨c, fz, hk⟩ := Lib.ownsRow_kind ho h e.symm
  rw [hh] at hk
  simp at hk
  exact hT hk.2.1
theorem info2I : (Tryz.prog.info? 2).map (fun i => (i.zero, i.size, i.bytes)) = some (some (.int .i64 0), 1, 8) := by kernel_rfl
/-- How far the columns are. -/
def colAt (b : BookT) (n0 n1 n2 n3 : Nat) (j : Nat) : List Int :=
  if j < 4 then colT j (b.hs.take n0) else if j < 7 then colT (j - 4) (b.ss.take n1) else if j < 13 then colT (j - 7) (b.os.take n2) else colT (j - 13) (b.rs.take n3)
theorem colT_next {l : List Item} {i : Nat} {x : Item} (h : l[i]? = some x) (j : Nat) : colT j (l.take (i + 1)) = colT j (l.take i) ++ [key j x] := by
  unfold colT
  rw [take_one h, List.map_append]; rfl
theorem upd_len {C : Nat → List Int} {n k : Nat} {z : Int} (h : ∀ j, j < 15 → (C j).length ≤ n) (hk : k < 15) : ∀ j, j < 15 → (upd C k (C k ++ [z]) j).length ≤ n + 1 := by
  intro j hj
  by_cases e : j = k
  · subst e
    have := h j hj
    rw [upd_at, List.length_append]; simp; omega
  · rw [upd_ne C _ e]; have := h j hj; omega
theorem colAt_len {m : Nat} {b : BookT} (h : BookOk m b) (n0 n1 n2 n3 j : Nat) : (colAt b n0 n1 n2 n3 j).length ≤ m := by
  have h1 := h.hs.1
  have h2 := h.ss.1
  have h3 := h.os.1
  have h4 := h.rs.1
  unfold colAt colT
  split
  · simp; omega
  · split
    · simp; omega
    · split <;> (simp; omega)
theorem colAt_all (b : BookT) (j : Nat) (hj : j < 15) : colAt b b.hs.length b.ss.length b.os.length b.rs.length j = (colsT b).getD j [] := by
  unfold colAt
  rw [List.take_length, List.take_length, List.take_length, List.take_length]
  match j, hj with
  | 0, _ => rfl
  | 1, _ => rfl
  | 2, _ => rfl
  | 3, _ => rfl
  | 4, _ => rfl
  | 5, _ => rfl
  | 6, _ => rfl
  | 7, _ => rfl
  | 8, _ => rfl
  | 9, _ => rfl
  | 10, _ => rfl
  | 11, _ => rfl
  | 12, _ => rfl
  | 13, _ => rfl
  | 14, _ => rfl
  | j + 15, hj => omega
theorem cols_one {B g : Nat} {W0 W : World} {V : Nat → Value} {C : Nat → List Int} (h : ColsS B g W0 V C W) : (((List.range 15).map V).toArray).all (·.oneCell') = true := by
  rw [Array.all_eq_true']
  intro x hx
  simp only [List.mem_toArray, List.mem_map, List.mem_range] at hx
  obtain ⟨j, hj, rfl⟩ := hx
  obtain ⟨a, c, hv⟩ := own_formS (h.own j hj)
  rw [hv]; rfl
theorem own_fromS {W : World} {B B' n k : Nat} {T : TypeId} {v : Value} {xs : List Value} (h : W.ownsRow B' T k v n xs) (hb : B ≤ B') : W.ownsRow B T k v n xs := by
  obtain ⟨e, h0⟩ := h
  refine ⟨e, ?_⟩
  rcases h0 with h0 | ⟨g, cap, cur, rfl, a1, a2⟩
  · exact .inl h0
  · exact .inr ⟨g, cap, cur, rfl, Nat.le_trans hb a1, a2⟩
theorem info15 : (Tryz.prog.info? 77).map (·.size) = some 15 := by kernel_rfl
theorem cols_next0 {b : BookT} {i : Nat} {p q r s : Int} {n1 n2 n3 : Nat} (hx : b.hs[i]? = some [p, q, r, s]) {C C1 C2 C3 C4 : Nat → List Int} (hC : ∀ j, j < 15 → C j = colAt b i n1 n2 n3 j) (e1 : upd C 0 (C 0 ++ [p]) = C1) (e2 : upd C1 1 (C1 1 ++ [q]) = C2) (e3 : upd C2 2 (C2 2 ++ [r]) = C3) (e4 : upd C3 3 (C3 3 ++ [s]) = C4) : ∀ j, j < 15 → C4 j = colAt b (i + 1) n1 n2 n3 j := by
  intro j hj
  have hj2 := hC j hj
  rw [← e4, ← e3, ← e2, ← e1]
  match j, hj, hj2 with
  | 0, _, hj2 => simp [upd,  hj2, colAt, colT_next hx, key]
  | 1, _, hj2 => simp [upd,  hj2, colAt, colT_next hx, key]
  | 2, _, hj2 => simp [upd,  hj2, colAt, colT_next hx, key]
  | 3, _, hj2 => simp [upd,  hj2, colAt, colT_next hx, key]
  | 4, _, hj2 => simp [upd, hj2, colAt]
  | 5, _, hj2 => simp [upd, hj2, colAt]
  | 6, _, hj2 => simp [upd, hj2, colAt]
  | 7, _, hj2 => simp [upd, hj2, colAt]
  | 8, _, hj2 => simp [upd, hj2, colAt]
  | 9, _, hj2 => simp [upd, hj2, colAt]
  | 10, _, hj2 => simp [upd, hj2, colAt]
  | 11, _, hj2 => simp [upd, hj2, colAt]
  | 12, _, hj2 => simp [upd, hj2, colAt]
  | 13, _, hj2 => simp [upd, hj2, colAt]
  | 14, _, hj2 => simp [upd, hj2, colAt]
  | j + 15, hj, _ => omega
theorem cols_next1 {b : BookT} {i : Nat} {p q r : Int} {n0 n2 n3 : Nat} (hx : b.ss[i]? = some [p, q, r]) {C C1 C2 C3 : Nat → List Int} (hC : ∀ j, j < 15 → C j = colAt b n0 i n2 n3 j) (e1 : upd C 4 (C 4 ++ [p]) = C1) (e2 : upd C1 5 (C1 5 ++ [q]) = C2) (e3 : upd C2 6 (C2 6 ++ [r]) = C3) : ∀ j, j < 15 → C3 j = colAt b n0 (i + 1) n2 n3 j := by
  intro j hj
  have hj2 := hC j hj
  rw [← e3, ← e2, ← e1]
  match j, hj, hj2 with
  | 0, _, hj2 => simp [upd, hj2, colAt]
  | 1, _, hj2 => simp [upd, hj2, colAt]
  | 2, _, hj2 => simp [upd, hj2, colAt]
  | 3, _, hj2 => simp [upd, hj2, colAt]
  | 4, _, hj2 => simp [upd,  hj2, colAt, colT_next hx, key]
  | 5, _, hj2 => simp [upd,  hj2, colAt, colT_next hx, key]
  | 6, _, hj2 => simp [upd,  hj2, colAt, colT_next hx, key]
  | 7, _, hj2 => simp [upd, hj2, colAt]
  | 8, _, hj2 => simp [upd, hj2, colAt]
  | 9, _, hj2 => simp [upd, hj2, colAt]
  | 10, _, hj2 => simp [upd, hj2, colAt]
  | 11, _, hj2 => simp [upd, hj2, colAt]
  | 12, _, hj2 => simp [upd, hj2, colAt]
  | 13, _, hj2 => simp [upd, hj2, colAt]
  | 14, _, hj2 => simp [upd, hj2, colAt]
  | j + 15, hj, _ => omega
theorem cols_next2 {b : BookT} {i : Nat} {p q r s t z : Int} {n0 n1 n3 : Nat} (hx : b.os[i]? = some [p, q, r, s, t, z]) {C C1 C2 C3 C4 C5 C6 : Nat → List Int} (hC : ∀ j, j < 15 → C j = colAt b n0 n1 i n3 j) (e1 : upd C 7 (C 7 ++ [p]) = C1) (e2 : upd C1 8 (C1 8 ++ [q]) = C2) (e3 : upd C2 9 (C2 9 ++ [r]) = C3) (e4 : upd C3 10 (C3 10 ++ [s]) = C4) (e5 : upd C4 11 (C4 11 ++ [t]) = C5) (e6 : upd C5 12 (C5 12 ++ [z]) = C6) : ∀ j, j < 15 → C6 j = colAt b n0 n1 (i + 1) n3 j := by
  intro j hj
  have hj2 := hC j hj
  rw [← e6, ← e5, ← e4, ← e3, ← e2, ← e1]
  match j, hj, hj2 with
  | 0, _, hj2 => simp [upd, hj2, colAt]
  | 1, _, hj2 => simp [upd, hj2, colAt]
  | 2, _, hj2 => simp [upd, hj2, colAt]
  | 3, _, hj2 => simp [upd, hj2, colAt]
  | 4, _, hj2 => simp [upd, hj2, colAt]
  | 5, _, hj2 => simp [upd, hj2, colAt]
  | 6, _, hj2 => simp [upd, hj2, colAt]
  | 7, _, hj2 => simp [upd,  hj2, colAt, colT_next hx, key]
  | 8, _, hj2 => simp [upd,  hj2, colAt, colT_next hx, key]
  | 9, _, hj2 => simp [upd,  hj2, colAt, colT_next hx, key]
  | 10, _, hj2 => simp [upd,  hj2, colAt, colT_next hx, key]
  | 11, _, hj2 => simp [upd,  hj2, colAt, colT_next hx, key]
  | 12, _, hj2 => simp [upd,  hj2, colAt, colT_next hx, key]
  | 13, _, hj2 => simp [upd, hj2, colAt]
  | 14, _, hj2 => simp [upd, hj2, colAt]
  | j + 15, hj, _ => omega
theorem cols_next3 {b : BookT} {i : Nat} {p q : Int} {n0 n1 n2 : Nat} (hx : b.rs[i]? = some [p, q]) {C C1 C2 : Nat → List Int} (hC : ∀ j, j < 15 → C j = colAt b n0 n1 n2 i j) (e1 : upd C 13 (C 13 ++ [p]) = C1) (e2 : upd C1 14 (C1 14 ++ [q]) = C2) : ∀ j, j < 15 → C2 j = colAt b n0 n1 n2 (i + 1) j := by
  intro j hj
  have hj2 := hC j hj
  rw [← e2, ← e1]
  match j, hj, hj2 with
  | 0, _, hj2 => simp [upd, hj2, colAt]
  | 1, _, hj2 => simp [upd, hj2, colAt]
  | 2, _, hj2 => simp [upd, hj2, colAt]
  | 3, _, hj2 => simp [upd, hj2, colAt]
  | 4, _, hj2 => simp [upd, hj2, colAt]
  | 5, _, hj2 => simp [upd, hj2, colAt]
  | 6, _, hj2 => simp [upd, hj2, colAt]
  | 7, _, hj2 => simp [upd, hj2, colAt]
  | 8, _, hj2 => simp [upd, hj2, colAt]
  | 9, _, hj2 => simp [upd, hj2, colAt]
  | 10, _, hj2 => simp [upd, hj2, colAt]
  | 11, _, hj2 => simp [upd, hj2, colAt]
  | 12, _, hj2 => simp [upd, hj2, colAt]
  | 13, _, hj2 => simp [upd,  hj2, colAt, colT_next hx, key]
  | 14, _, hj2 => simp [upd,  hj2, colAt, colT_next hx, key]
  | j + 15, hj, _ => omega
end Go.Proofs.YtnhljfhpfpfniaaGreat
