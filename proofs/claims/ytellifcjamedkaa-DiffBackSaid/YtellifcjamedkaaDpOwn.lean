/- Rows and changes that are being made, as the program has them. -/
import Derived.Test.YtellifcjamedkaaDpRows
import Derived.Test.YtellifcjamedkaaDfRef3
namespace Go.Proofs.Ytellifcjamedkaa
open Go.RowKit Base Base2

theorem new_run (W : World) (xs : List Value) (t : TypeId) : ∀ (j : Nat) (u : Value), xs[j]? = some u → (W.alloc (.cells xs.toArray t)).cell? ((⟨W.heap.size, 0, none⟩ : Addr).add j) = some u := by
  intro j u hj
  have e : (⟨W.heap.size, 0, none⟩ : Addr).add j = ⟨W.heap.size, j, none⟩ := by cases j <;> simp [Addr.add]
  rw [e, cell_of_row _ _ _ _ t (0, 0) (heap_alloc_new W _)]
  simpa using hj
/-- What turns no cells of these kinds. -/
def NoT (ts : List TypeId) (T : Nat → Obj → Prop) : Prop := ∀ k cs t fz, T k (.cells cs t fz) → t ∉ ts
theorem NoT.sub {ts us : List TypeId} {T : Nat → Obj → Prop} (h : NoT ts T) (hs : ∀ t ∈ us, t ∈ ts) : NoT us T := fun k cs t fz a b => h k cs t fz a (hs t b)
theorem NoT.at {ts : List TypeId} {T : Nat → Obj → Prop} (h : NoT ts T) {W W' : World} (ht : TurnsK T W W') {k : Nat} {cs : Array Value} {t : TypeId} {fz : Nat × Nat} (hk : W.heap[k]? = some (.cells cs t fz)) (hm : t ∈ ts) : W'.heap[k]? = some (.cells cs t fz) := ht.block _ _ hk (fun a => h k cs t fz a hm)
theorem own_turn {W W' : World} {B n : Nat} {e : TypeId} {sz : Nat} {v : Value} {xs : List Value} {T : Nat → Obj → Prop} (h : W.ownsRow B e sz v n xs) (hT : NoT [e] T) (ht : TurnsK T W W') : W'.ownsRow B e sz v n xs := by
  refine ⟨h.1, ?_⟩
  rcases h.2 with h0 | ⟨g, cap, cur, rfl, h1, h2, h3⟩
  · exact .inl h0
  · exact .inr ⟨g, cap, cur, rfl, h1, hT.at ht h2 (by simp), h3⟩
theorem ValAt.turn {W W' : World} {a : Option Addr} {v : List Int} {T : Nat → Obj → Prop} (h : ValAt W a v) (hT : NoT [2] T) (ht : TurnsK T W W') : ValAt W' a v := h.keep fun k cs hk => hT.at ht hk (by simp)
theorem boxed_turn {W W' : World} {b : Nat} {t : TypeId} {v : Value} {T : Nat → Obj → Prop} (h : Boxed W b t v) (hT : NoT [t] T) (ht : TurnsK T W W') : Boxed W' b t v := hT.at ht h (by simp)
theorem infoRp : (Try.prog.info? 54).map (fun i => (i.zero, i.size, i.bytes)) = some (some (.agg #[.int .i64 0, .int .i64 0, .int .i64 0, .slice none 0 0]), 4, 48) := by kernel_rfl
/-- They are being made. -/
structure RpS (B : Nat) (W0 : World) (o : List RowV) (v : Value) (W : World) : Prop where
  row : W.ownsRow B 54 4 v o.length (flatW o)
  val : ∀ x ∈ o, ValAt W x.a x.r.v
  lo : Below B W0 W
  sz : B ≤ W.heap.size
theorem RpS.nil {B : Nat} {W0 : World} (h : B ≤ W0.heap.size) : RpS B W0 [] (.slice none 0 0) W0 := ⟨⟨by simp [flatW], .inl ⟨rfl, rfl⟩⟩, (fun x hx => by cases hx), Below.refl _ _, h⟩
theorem RpS.turn {B : Nat} {W0 W W' : World} {o : List RowV} {v : Value} {T : Nat → Obj → Prop} (h : RpS B W0 o v W) (hT : NoT [54, 2] T) (hB : ∀ k o, T k o → B ≤ k) (ht : TurnsK T W W') : RpS B W0 o v W' :=
  ⟨own_turn h.row (hT.sub (by simp)) ht, fun x hx => (h.val x hx).turn (hT.sub (by simp)) ht, h.lo.trans (ht.lo h.sz (fun k o hk a => by have := hB k o a; omega)), Nat.le_trans h.sz ht.size⟩
theorem RpS.below {B : Nat} {W0 W W' : World} {o : List RowV} {v : Value} (h : RpS B W0 o v W) (hb : Below W.heap.size W W') : RpS B W0 o v W' := h.turn (T := fun _ _ => False) (fun _ _ _ _ a => a.elim) (fun _ _ a => a.elim) (.below hb)
theorem RpS.app {B : Nat} {W0 W w2 : World} {o : List RowV} {v v' : Value} {x : RowV} {ob : Obj} (h : RpS B W0 o v W) (hx : ValAt W x.a x.r.v) (hr : w2.ownsRow B 54 4 v' (o.length + 1) (flatW o ++ x.cells)) (hg : (W.alloc ob).grownBy w2 v.ownBlock) : RpS B W0 (o ++ [x]) v' w2 := by
  have hg2 := World_grown_alloc hg
  have hk : ∀ (k : Nat) (cs : Array Value), W.heap[k]? = some (.cells cs 2 (0, 0)) → w2.heap[k]? = some (.cells cs 2 (0, 0)) := fun k cs hk => (hg2.block k (lt_of_blk hk) (own_ne' h.row hk (by decide))).trans hk
  refine ⟨by rw [flatW_app, flatW_one, List.length_append]; exact hr, fun y hy => ?_, h.lo.grown hg2 h.sz (own_block_ge h.row), Nat.le_trans h.sz hg2.size⟩
  rcases List.mem_append.1 hy with hy | hy
  · exact (h.val y hy).keep hk
  · rw [List.mem_singleton.1 hy]; exact hx.keep hk
/-- How far an append turns what lay. -/
theorem RpS.app_turn {B : Nat} {W0 W w2 : World} {o : List RowV} {v : Value} {ob : Obj} (h : RpS B W0 o v W) (hg : (W.alloc ob).grownBy w2 v.ownBlock) : TurnsK (fun k o => B ≤ k ∧ ∃ cs, o = .cells cs 54 (0, 0)) W w2 := by
  refine TurnsK.grown (World_grown_alloc hg) fun k o e hk => ⟨own_block_ge h.row k e, ?_⟩
  rcases h.row.2 with ⟨rfl, _⟩ | ⟨g, cap, cur, rfl, _, h2, _⟩
  · simp [Value.ownBlock] at e
  · obtain rfl : g = k := by simpa [Value.ownBlock] using e
    rw [h2] at hk
    cases hk
    exact ⟨_, rfl⟩
theorem infoCp : (Try.prog.info? 62).map (fun i => (i.zero, i.size, i.bytes)) = some (some (.agg #[.int .i64 0, .int .i64 0, .int .i64 0, .slice none 0 0, .slice none 0 0]), 5, 72) := by kernel_rfl
/-- They are being made. -/
structure CpS (B : Nat) (W0 : World) (o : List ChV) (v : Value) (W : World) : Prop where
  row : W.ownsRow B 62 5 v o.length (flatK o)
  val : ∀ x ∈ o, ValAt W x.a1 x.c.was ∧ ValAt W x.a2 x.c.now
  lo : Below B W0 W
  sz : B ≤ W.heap.size
theorem CpS.nil {B : Nat} {W0 : World} (h : B ≤ W0.heap.size) : CpS B W0 [] (.slice none 0 0) W0 := ⟨⟨by simp [flatK], .inl ⟨rfl, rfl⟩⟩, (fun x hx => by cases hx), Below.refl _ _, h⟩
theorem CpS.turn {B : Nat} {W0 W W' : World} {o : List ChV} {v : Value} {T : Nat → Obj → Prop} (h : CpS B W0 o v W) (hT : NoT [62, 2] T) (hB : ∀ k o, T k o → B ≤ k) (ht : TurnsK T W W') : CpS B W0 o v W' :=
  ⟨own_turn h.row (hT.sub (by simp)) ht, fun x hx => ⟨(h.val x hx).1.turn (hT.sub (by simp)) ht, (h.val x hx).2.turn (hT.sub (by simp)) ht⟩, h.lo.trans (ht.lo h.sz (fun k o hk a => by have := hB k o a; omega)), Nat.le_trans h.sz ht.size⟩
theorem CpS.below {B : Nat} {W0 W W' : World} {o : List ChV} {v : Value} (h : CpS B W0 o v W) (hb : Below W.heap.size W W') : CpS B W0 o v W' := h.turn (T := fun _ _ => False) (fun _ _ _ _ a => a.elim) (fun _ _ a => a.elim) (.below hb)
theorem CpS.app {B : Nat} {W0 W w2 : World} {o : List ChV} {v v' : Value} {x : ChV} {ob : Obj} (h : CpS B W0 o v W) (hx : ValAt W x.a1 x.c.was ∧ ValAt W x.a2 x.c.now) (hr : w2.ownsRow B 62 5 v' (o.length + 1) (flatK o ++ x.cells)) (hg : (W.alloc ob).grownBy w2 v.ownBlock) : CpS B W0 (o ++ [x]) v' w2 := by
  have hg2 := World_grown_alloc hg
  have hk : ∀ (k : Nat) (cs : Array Value), W.heap[k]? = some (.cells cs 2 (0, 0)) → w2.heap[k]? = some (.cells cs 2 (0, 0)) := fun k cs hk => (hg2.block k (lt_of_blk hk) (own_ne' h.row hk (by decide))).trans hk
  refine ⟨by rw [flatK_app, flatK_one, List.length_append]; exact hr, fun y hy => ?_, h.lo.grown hg2 h.sz (own_block_ge h.row), Nat.le_trans h.sz hg2.size⟩
  rcases List.mem_append.1 hy with hy | hy
  · exact ⟨(h.val y hy).1.keep hk, (h.val y hy).2.keep hk⟩
  · rw [List.mem_singleton.1 hy]; exact ⟨hx.1.keep hk, hx.2.keep hk⟩
/-- How far an append turns what lay. -/
theorem CpS.app_turn {B : Nat} {W0 W w2 : World} {o : List ChV} {v : Value} {ob : Obj} (h : CpS B W0 o v W) (hg : (W.alloc ob).grownBy w2 v.ownBlock) : TurnsK (fun k o => B ≤ k ∧ ∃ cs, o = .cells cs 62 (0, 0)) W w2 := by
  refine TurnsK.grown (World_grown_alloc hg) fun k o e hk => ⟨own_block_ge h.row k e, ?_⟩
  rcases h.row.2 with ⟨rfl, _⟩ | ⟨g, cap, cur, rfl, _, h2, _⟩
  · simp [Value.ownBlock] at e
  · obtain rfl : g = k := by simpa [Value.ownBlock] using e
    rw [h2] at hk
    cases hk
    exact ⟨_, rfl⟩
end Go.Proofs.Ytellifcjamedkaa
