/- The document's diff of two books: the contract. -/
import Derived.Test.YtellifcjamedkaaDfRef2
import Derived.Test.YtellifcjamedkaaClRef2
import Derived.BigQuiet
namespace Go.Proofs.Ytellifcjamedkaa
open Go.RowKit Base Base2

/-- A change, and where its values lie. -/
structure ChV where
  c : ChT
  a1 : Option Addr
  c1 : Nat
  a2 : Option Addr
  c2 : Nat
def ChV.cells (x : ChV) : List Value := [.int .i64 x.c.l, .int .i64 x.c.a, .int .i64 x.c.b, .slice x.a1 x.c.was.length x.c1, .slice x.a2 x.c.now.length x.c2]
def flatK (l : List ChV) : List Value := (l.map ChV.cells).flatten
theorem flatK_app (l m : List ChV) : flatK (l ++ m) = flatK l ++ flatK m := by simp [flatK]
theorem flatK_one (x : ChV) : flatK [x] = x.cells := by simp [flatK]
theorem one_chV (x : ChV) : ∀ u ∈ x.cells, u.oneCell' = true := by
  intro u hu
  simp only [ChV.cells, List.mem_cons, List.not_mem_nil, or_false] at hu
  rcases hu with rfl | rfl | rfl | rfl | rfl <;> rfl
theorem infoCh : (Try.prog.info? 47).map (fun i => (i.zero, i.size, i.bytes)) = some (some (.agg #[.int .i64 0, .int .i64 0, .int .i64 0, .slice none 0 0, .slice none 0 0]), 5, 72) := by kernel_rfl
/-- Changes that are being made. -/
structure ChS (B : Nat) (W0 : World) (o : List ChV) (v : Value) (W : World) : Prop where
  row : W.ownsRow B 47 5 v o.length (flatK o)
  val : ∀ x ∈ o, ValAt W x.a1 x.c.was ∧ ValAt W x.a2 x.c.now
  lo : Below B W0 W
  sz : B ≤ W.heap.size
theorem ChS.nil {B : Nat} {W0 : World} (h : B ≤ W0.heap.size) : ChS B W0 [] (.slice none 0 0) W0 := ⟨⟨by simp [flatK], .inl ⟨rfl, rfl⟩⟩, (fun x hx => by cases hx), Below.refl _ _, h⟩
theorem ChS.below {B : Nat} {W0 W W' : World} {o : List ChV} {v : Value} (h : ChS B W0 o v W) (hb : Below W.heap.size W W') : ChS B W0 o v W' :=
  ⟨own_below' h.row hb, fun x hx => ⟨(h.val x hx).1.below hb, (h.val x hx).2.below hb⟩, h.lo.trans (hb.mono h.sz), Nat.le_trans h.sz hb.size⟩
theorem ChS.app {B : Nat} {W0 W w2 : World} {o : List ChV} {v v' : Value} {x : ChV} {ob : Obj} (h : ChS B W0 o v W) (hx : ValAt W x.a1 x.c.was ∧ ValAt W x.a2 x.c.now) (hr : w2.ownsRow B 47 5 v' (o.length + 1) (flatK o ++ x.cells)) (hg : (W.alloc ob).grownBy w2 v.ownBlock) : ChS B W0 (o ++ [x]) v' w2 := by
  have hg2 := World_grown_alloc hg
  have hk : ∀ (k : Nat) (cs : Array Value), W.heap[k]? = some (.cells cs 2 (0, 0)) → w2.heap[k]? = some (.cells cs 2 (0, 0)) := fun k cs hk => (hg2.block k (lt_of_blk hk) (own_ne' h.row hk (by decide))).trans hk
  refine ⟨by rw [flatK_app, flatK_one, List.length_append]; exact hr, fun y hy => ?_, h.lo.grown hg2 h.sz (own_block_ge h.row), Nat.le_trans h.sz hg2.size⟩
  rcases List.mem_append.1 hy with hy | hy
  · exact ⟨(h.val y hy).1.keep hk, (h.val y hy).2.keep hk⟩
  · rw [List.mem_singleton.1 hy]; exact ⟨hx.1.keep hk, hx.2.keep hk⟩
theorem flatW_len : ∀ l : List RowV, (flatW l).length = l.length * 4
  | [] => rfl
  | x :: l => by
    show (x.cells ++ flatW l).length = _
    rw [List.length_append, flatW_len l, List.length_cons, Nat.add_mul]; simp [RowV.cells]; omega
theorem flatW_at : ∀ (l : List RowV) (i : Nat) (x : RowV), l[i]? = some x → (flatW l)[i * 4]? = some (.int .i64 x.r.l) ∧ (flatW l)[i * 4 + 1]? = some (.int .i64 x.r.a) ∧ (flatW l)[i * 4 + 2]? = some (.int .i64 x.r.b) ∧ (flatW l)[i * 4 + 3]? = some (.slice x.a x.r.v.length x.c)
  | [], i, x, h => by simp at h
  | y :: l, 0, x, h => by
    obtain rfl : y = x := by simpa using h
    exact ⟨rfl, rfl, rfl, rfl⟩
  | y :: l, i + 1, x, h => by
    have ih := flatW_at l i x (by simpa using h)
    have e : flatW (y :: l) = y.cells ++ flatW l := rfl
    have hl : y.cells.length = 4 := rfl
    rw [e, List.getElem?_append_right (by omega), List.getElem?_append_right (by omega), List.getElem?_append_right (by omega), List.getElem?_append_right (by omega), hl, show (i + 1) * 4 - 4 = i * 4 by omega, show (i + 1) * 4 + 1 - 4 = i * 4 + 1 by omega, show (i + 1) * 4 + 2 - 4 = i * 4 + 2 by omega, show (i + 1) * 4 + 3 - 4 = i * 4 + 3 by omega]
    exact ih
theorem RwS.at {B : Nat} {W0 W : World} {o : List RowV} {v : Value} {i g n cap : Nat} {x : RowV} (h : RwS B W0 o v W) (hx : o[i]? = some x) (hv : v = .slice (some ⟨g, 0, none⟩) n cap) : W.cell? ⟨g, i * 4, none⟩ = some (.int .i64 x.r.l) ∧ W.cell? ⟨g, i * 4 + 1, none⟩ = some (.int .i64 x.r.a) ∧ W.cell? ⟨g, i * 4 + 2, none⟩ = some (.int .i64 x.r.b) ∧ W.cell? ⟨g, i * 4 + 3, none⟩ = some (.slice x.a x.r.v.length x.c) := by
  have ho := h.row
  obtain ⟨a, c, hf⟩ : ∃ a c, v = .slice a o.length c := by
    rcases ho.2 with ⟨rfl, hn⟩ | ⟨g', cap', cur, rfl, _⟩
    · exact ⟨none, 0, by rw [hn]⟩
    · exact ⟨_, _, rfl⟩
  rw [hv] at hf
  simp only [Value.slice.injEq] at hf
  obtain ⟨_, rfl, _⟩ := hf
  rw [hv] at ho
  have hi := (List.getElem?_eq_some_iff.1 hx).1
  have hc : ∀ m u, (flatW o)[m]? = some u → W.cell? ⟨g, m, none⟩ = some u := fun m u hu => by
    have hm := (List.getElem?_eq_some_iff.1 hu).1
    rw [flatW_len] at hm
    rw [ho.cellAt m hm]; exact hu
  obtain ⟨e0, e1, e2, e3⟩ := flatW_at o i x hx
  exact ⟨hc _ _ e0, hc _ _ e1, hc _ _ e2, hc _ _ e3⟩
theorem drop_at {α : Type} {l : List α} {i : Nat} {x : α} (h : l[i]? = some x) : l.drop i = x :: l.drop (i + 1) := by
  obtain ⟨hlt, he⟩ := List.getElem?_eq_some_iff.1 h
  rw [← he, ← List.drop_eq_getElem_cons hlt]
theorem drop_end {α : Type} {l : List α} {i : Nat} (h : l.length ≤ i) : l.drop i = [] := List.drop_eq_nil_of_le h
theorem yields_atD {P : Program} {ops : Array Oper} {S : World → Prop} {op : Oper} {a : Act} (hw : Region.wanted op (yielded ops a.tmps) = true) (ty : TypeId) (x : Operand) (ho : op.op = .load ty x) (p v : Value) (hx : a.eval x = p) (hS : ∀ w, S w → (Instr.loadAt ty p).run P w = .ok v w) : YieldsIf P ops S op v a :=
  .inl ⟨hw, fun w hw' => by
    unfold execOp
    simp only [ho, hx, Sem.run_bind, Sem.run_pure, hS w hw', Result.andThen_ok]⟩
theorem wanted_noneD {ops : Array Oper} {o : Oper} {a : Act} (hgd : o.guard = none) : Region.wanted o (yielded ops a.tmps) = true := by simp [Region.wanted, hgd]
theorem quietD {P : Program} {f : FuncId} {args : Array Value} {v : Value} (h : ∀ W, Calls P f args W fun e w' => e = .returned v ∧ W = w') (w : World) (n : Nat) : Calls P f args (w.drewN n) fun e w'' => e = .returned v ∧ ∃ m, w'' = w.drewN m :=
  (h _).mono fun _ _ ⟨he, hm⟩ => ⟨he, n, hm.symm⟩
theorem quietS {P : Program} {f : FuncId} {args : Array Value} {v : Value} {w : World} (h : ∀ n, Calls P f args (w.drewN n) fun e w' => e = .returned v ∧ ∃ k, w' = (w.drewN n).drewN k) (n : Nat) : Calls P f args (w.drewN n) fun e w'' => e = .returned v ∧ ∃ m, w'' = w.drewN m :=
  (h n).mono fun _ _ ⟨he, k, hm⟩ => ⟨he, n + k, by rw [hm, World.drewN_drewN]⟩
theorem step_del0 {ox oy : List RowV} {oo : List ChV} {D : List ChT} {i k : Nat} {l a b : Int} {v : List Int} {A : Option Addr} {c : Nat} (h : oo.map ChV.c ++ mergeD ((ox.drop i).map RowV.r) ((oy.drop k).map RowV.r) = D) (hx : ox[i]? = some ⟨⟨l, a, b, v⟩, A, c⟩) (hk : oy.length ≤ k) :
    (oo ++ [(⟨⟨l, a, b, v, []⟩, A, c, none, 0⟩ : ChV)]).map ChV.c ++ mergeD ((ox.drop (i + 1)).map RowV.r) ((oy.drop k).map RowV.r) = D := by
  rw [drop_at hx, drop_end hk, List.map_cons, List.map_nil, mergeD] at h
  rw [drop_end hk, List.map_append, ← h, List.append_assoc]
  rfl
theorem step_ins0 {ox oy : List RowV} {oo : List ChV} {D : List ChT} {i k : Nat} {l a b : Int} {v : List Int} {A : Option Addr} {c : Nat} (h : oo.map ChV.c ++ mergeD ((ox.drop i).map RowV.r) ((oy.drop k).map RowV.r) = D) (hx : oy[k]? = some ⟨⟨l, a, b, v⟩, A, c⟩) (hk : ox.length ≤ i) :
    (oo ++ [(⟨⟨l, a, b, [], v⟩, none, 0, A, c⟩ : ChV)]).map ChV.c ++ mergeD ((ox.drop i).map RowV.r) ((oy.drop (k + 1)).map RowV.r) = D := by
  rw [drop_at hx, drop_end hk, List.map_cons, List.map_nil, mergeD] at h
  rw [drop_end hk, List.map_append, ← h, List.append_assoc]
  rfl
theorem step_del {ox oy : List RowV} {oo : List ChV} {D : List ChT} {i k : Nat} {l a b : Int} {v : List Int} {A : Option Addr} {c : Nat} {y : RowV} (h : oo.map ChV.c ++ mergeD ((ox.drop i).map RowV.r) ((oy.drop k).map RowV.r) = D) (hx : ox[i]? = some ⟨⟨l, a, b, v⟩, A, c⟩) (hy : oy[k]? = some y) (hl : lessD l a b y.r.l y.r.a y.r.b = true) :
    (oo ++ [(⟨⟨l, a, b, v, []⟩, A, c, none, 0⟩ : ChV)]).map ChV.c ++ mergeD ((ox.drop (i + 1)).map RowV.r) ((oy.drop k).map RowV.r) = D := by
  rw [drop_at hx, drop_at hy, List.map_cons, List.map_cons, mergeD, if_pos (show ltR ⟨l, a, b, v⟩ y.r = true from hl)] at h
  rw [drop_at hy, List.map_cons, List.map_append, ← h, List.append_assoc]
  rfl
theorem step_ins {ox oy : List RowV} {oo : List ChV} {D : List ChT} {i k : Nat} {l a b : Int} {v : List Int} {A : Option Addr} {c : Nat} {x : RowV} (h : oo.map ChV.c ++ mergeD ((ox.drop i).map RowV.r) ((oy.drop k).map RowV.r) = D) (hx : ox[i]? = some x) (hy : oy[k]? = some ⟨⟨l, a, b, v⟩, A, c⟩) (hn : lessD x.r.l x.r.a x.r.b l a b = false) (hl : lessD l a b x.r.l x.r.a x.r.b = true) :
    (oo ++ [(⟨⟨l, a, b, [], v⟩, none, 0, A, c⟩ : ChV)]).map ChV.c ++ mergeD ((ox.drop i).map RowV.r) ((oy.drop (k + 1)).map RowV.r) = D := by
  rw [drop_at hx, drop_at hy, List.map_cons, List.map_cons, mergeD, if_neg (by unfold ltR; rw [hn]; simp), if_pos (show ltR ⟨l, a, b, v⟩ x.r = true from hl)] at h
  rw [drop_at hx, List.map_cons, List.map_append, ← h, List.append_assoc]
  rfl
theorem step_chg {ox oy : List RowV} {oo : List ChV} {D : List ChT} {i k : Nat} {l a b m p q : Int} {v u : List Int} {A C : Option Addr} {c d : Nat} (h : oo.map ChV.c ++ mergeD ((ox.drop i).map RowV.r) ((oy.drop k).map RowV.r) = D) (hx : ox[i]? = some ⟨⟨l, a, b, v⟩, A, c⟩) (hy : oy[k]? = some ⟨⟨m, p, q, u⟩, C, d⟩) (hn : lessD l a b m p q = false) (hl : lessD m p q l a b = false) (hv : v ≠ u) :
    (oo ++ [(⟨⟨l, a, b, v, u⟩, A, c, C, d⟩ : ChV)]).map ChV.c ++ mergeD ((ox.drop (i + 1)).map RowV.r) ((oy.drop (k + 1)).map RowV.r) = D := by
  rw [drop_at hx, drop_at hy, List.map_cons, List.map_cons, mergeD, if_neg (by unfold ltR; rw [hn]; simp), if_neg (by unfold ltR; rw [hl]; simp), if_neg hv] at h
  rw [List.map_append, ← h, List.append_assoc]
  rfl
theorem step_same {ox oy : List RowV} {oo : List ChV} {D : List ChT} {i k : Nat} {l a b m p q : Int} {v u : List Int} {A C : Option Addr} {c d : Nat} (h : oo.map ChV.c ++ mergeD ((ox.drop i).map RowV.r) ((oy.drop k).map RowV.r) = D) (hx : ox[i]? = some ⟨⟨l, a, b, v⟩, A, c⟩) (hy : oy[k]? = some ⟨⟨m, p, q, u⟩, C, d⟩) (hn : lessD l a b m p q = false) (hl : lessD m p q l a b = false) (hv : v = u) :
    oo.map ChV.c ++ mergeD ((ox.drop (i + 1)).map RowV.r) ((oy.drop (k + 1)).map RowV.r) = D := by
  rw [drop_at hx, drop_at hy, List.map_cons, List.map_cons, mergeD, if_neg (by unfold ltR; rw [hn]; simp), if_neg (by unfold ltR; rw [hl]; simp), if_pos hv] at h
  exact h
theorem rowsD_len {b : BookT} (h : BookOk 2000 b) : 0 < (rowsD b).length ∧ (rowsD b).length ≤ 8001 := by
  have h1 := h.hs.1
  have h2 := h.ss.1
  have h3 := h.os.1
  have h4 := h.rs.1
  unfold rowsD
  simp only [List.length_append, List.length_map, List.length_cons, List.length_nil]
  omega
theorem RwS.form {B : Nat} {W0 W : World} {o : List RowV} {v : Value} (h : RwS B W0 o v W) (hp : 0 < o.length) : ∃ g p, v = .slice (some ⟨g, 0, none⟩) o.length p := by
  rcases h.row.2 with ⟨_, hn⟩ | ⟨g, cap, cur, rfl, _⟩
  · omega
  · exact ⟨_, _, rfl⟩
theorem rowV_short {b : BookT} {ox : List RowV} {x : RowV} (h : ox.map RowV.r = rowsD b) (hx : x ∈ ox) : x.r.v.length ≤ 5 := by
  have hm : x.r ∈ rowsD b := by rw [← h]; exact List.mem_map_of_mem hx
  unfold rowsD at hm
  simp only [List.mem_append, List.mem_map, List.mem_singleton] at hm
  rcases hm with ⟨y, _, e⟩ | ⟨y, _, e⟩ | ⟨y, _, e⟩ | ⟨y, _, e⟩ | e <;> rw [← (by first | exact e | exact e.symm : _ = x.r)] <;> simp [rwH, rwS, rwO, rwR, rwC]
end Go.Proofs.Ytellifcjamedkaa
