/- The document's rows of a book: the contract. -/
import Derived.Test.YtellifcjamedkaaDfMath4
import Derived.Test.YtellifcjamedkaaBkSet
import Derived.Test.YtellifcjamedkaaClRef1
import Derived.OrdersHeld
namespace Go.Proofs.Ytellifcjamedkaa
open Go.RowKit Base Base2

/-- Numbers as they lie in a block of numbers. -/
def ValAt (W : World) (a : Option Addr) (v : List Int) : Prop := v = [] ∨ ∃ k off cs, a = some ⟨k, off, none⟩ ∧ W.heap[k]? = some (.cells cs 2 (0, 0)) ∧ ∀ (i : Nat) (z : Int), v[i]? = some z → cs[off + i]? = some (.int .i64 z)
theorem ValAt.i64s {W : World} {a : Option Addr} {v : List Int} (h : ValAt W a v) : I64s W a v := by
  rcases h with h | ⟨k, off, cs, h1, h2, h3⟩
  · exact .inl h
  · exact .inr ⟨k, off, h1, lt_of_blk h2, fun i z hz => by rw [cell_of_row _ _ _ _ _ _ h2]; exact h3 i z hz⟩
theorem ValAt.keep {W W' : World} {a : Option Addr} {v : List Int} (h : ValAt W a v) (hk : ∀ (k : Nat) (cs : Array Value), W.heap[k]? = some (.cells cs 2 (0, 0)) → W'.heap[k]? = some (.cells cs 2 (0, 0))) : ValAt W' a v := by
  rcases h with h | ⟨k, off, cs, h1, h2, h3⟩
  · exact .inl h
  · exact .inr ⟨k, off, cs, h1, hk k cs h2, h3⟩
theorem ValAt.below {W W' : World} {a : Option Addr} {v : List Int} (h : ValAt W a v) (hb : Below W.heap.size W W') : ValAt W' a v := h.keep fun k _ hk => (hb.block k (lt_of_blk hk)).trans hk
theorem ValAt.new (W : World) (v : List Int) : ValAt (W.alloc (.cells (v.map (Value.int .i64)).toArray 2)) (some ⟨W.heap.size, 0, none⟩) v :=
  .inr ⟨W.heap.size, 0, _, rfl, heap_alloc_new W _, fun i z hz => by rw [Nat.zero_add]; simp [hz]⟩
/-- A row, and where its values lie. -/
structure RowV where
  r : RowT
  a : Option Addr
  c : Nat
def RowV.cells (x : RowV) : List Value := [.int .i64 x.r.l, .int .i64 x.r.a, .int .i64 x.r.b, .slice x.a x.r.v.length x.c]
def flatW (l : List RowV) : List Value := (l.map RowV.cells).flatten
theorem flatW_app (l m : List RowV) : flatW (l ++ m) = flatW l ++ flatW m := by simp [flatW]
theorem flatW_one (x : RowV) : flatW [x] = x.cells := by simp [flatW]
theorem one_rowV (x : RowV) : ∀ u ∈ x.cells, u.oneCell' = true := by
  intro u hu
  simp only [RowV.cells, List.mem_cons, List.not_mem_nil, or_false] at hu
  rcases hu with rfl | rfl | rfl | rfl <;> rfl
theorem infoRw : (Try.prog.info? 74).map (fun i => (i.zero, i.size, i.bytes)) = some (some (.agg #[.int .i64 0, .int .i64 0, .int .i64 0, .slice none 0 0]), 4, 48) := by kernel_rfl
/-- Rows that are being made. -/
structure RwS (B : Nat) (W0 : World) (o : List RowV) (v : Value) (W : World) : Prop where
  row : W.ownsRow B 74 4 v o.length (flatW o)
  val : ∀ x ∈ o, ValAt W x.a x.r.v
  lo : Below B W0 W
  sz : B ≤ W.heap.size
theorem RwS.nil {B : Nat} {W0 : World} (h : B ≤ W0.heap.size) : RwS B W0 [] (.slice none 0 0) W0 := ⟨⟨by simp [flatW], .inl ⟨rfl, rfl⟩⟩, (fun x hx => by cases hx), Below.refl _ _, h⟩
theorem RwS.below {B : Nat} {W0 W W' : World} {o : List RowV} {v : Value} (h : RwS B W0 o v W) (hb : Below W.heap.size W W') : RwS B W0 o v W' :=
  ⟨own_below' h.row hb, fun x hx => (h.val x hx).below hb, h.lo.trans (hb.mono h.sz), Nat.le_trans h.sz hb.size⟩
theorem RwS.app {B : Nat} {W0 W W1 w2 : World} {o : List RowV} {v v' : Value} {x : RowV} {ob : Obj} (h : RwS B W0 o v W) (hW : Below W.heap.size W W1) (hx : ValAt W1 x.a x.r.v) (hr : w2.ownsRow B 74 4 v' (o.length + 1) (flatW o ++ x.cells)) (hg : (W1.alloc ob).grownBy w2 v.ownBlock) : RwS B W0 (o ++ [x]) v' w2 := by
  have h1 := h.below hW
  have hg2 := World_grown_alloc hg
  have hk : ∀ (k : Nat) (cs : Array Value), W1.heap[k]? = some (.cells cs 2 (0, 0)) → w2.heap[k]? = some (.cells cs 2 (0, 0)) := fun k cs hk => (hg2.block k (lt_of_blk hk) (own_ne' h1.row hk (by decide))).trans hk
  refine ⟨by rw [flatW_app, flatW_one, List.length_append]; exact hr, fun y hy => ?_, h1.lo.grown hg2 h1.sz (own_block_ge h1.row), Nat.le_trans h1.sz hg2.size⟩
  rcases List.mem_append.1 hy with hy | hy
  · exact (h1.val y hy).keep hk
  · rw [List.mem_singleton.1 hy]; exact hx.keep hk
set_option maxRecDepth 100000 in
set_option maxHeartbeats 8000000 in
theorem rless29 (l a b m c d : Int) (w : World) : Calls Try.prog 26 #[.int .i64 l, .int .i64 a, .int .i64 b, .int .i64 m, .int .i64 c, .int .i64 d] w fun e w' => e = .returned (.bool (lessD l a b m c d)) ∧ w = w' := by
  obtain ⟨R, hR⟩ : ∃ R, lessD l a b m c d = R := ⟨_, rfl⟩
  have HR := Lib.hid hR
  rw [hR]
  unfold lessD at hR
  clear hR
  go_enter Try.func26, Try.ntmps26
  by_cases h1 : l < m
  · have HD := Lib.hid (show R = true by rw [← HR.out, lessD_iff]; exact .inl h1)
    go_wp2
    go_ret
    exact ⟨ret_bool HD.out.symm, rfl⟩
  · by_cases h2 : l = m
    · have t2 : (l == m) = true := by simpa using h2
      have HL := Lib.hid h2
      clear h2
      by_cases h3 : a < c
      · have HD := Lib.hid (show R = true by rw [← HR.out, lessD_iff]; exact .inr ⟨HL.out, .inl h3⟩)
        go_wp2
        go_ret
        exact ⟨ret_bool HD.out.symm, rfl⟩
      · by_cases h4 : a = c
        · have t4 : (a == c) = true := by simpa using h4
          have HA := Lib.hid h4
          clear h4
          by_cases h5 : b < d
          · have HD := Lib.hid (show R = true by rw [← HR.out, lessD_iff]; exact .inr ⟨HL.out, .inr ⟨HA.out, h5⟩⟩)
            go_wp2
            go_ret
            exact ⟨ret_bool HD.out.symm, rfl⟩
          · have HD := Lib.hid (show R = false by rw [← HR.out, lessD_no]; have := HA.out; omega)
            go_wp2
            go_ret
            exact ⟨ret_bool HD.out.symm, rfl⟩
        · have t4 : (a == c) = false := by simpa using h4
          have HD := Lib.hid (show R = false by rw [← HR.out, lessD_no]; omega)
          go_wp2
          go_ret
          exact ⟨ret_bool HD.out.symm, rfl⟩
    · have t2 : (l == m) = false := by simpa using h2
      have HD := Lib.hid (show R = false by rw [← HR.out, lessD_no]; omega)
      go_wp2
      go_ret
      exact ⟨ret_bool HD.out.symm, rfl⟩
end Go.Proofs.Ytellifcjamedkaa
